/- Contracts of package sum: words. -/
import Derived.Test.YtinpeblpmmmdeaaSp
import Derived.Test.YtinpeblpmmmdeaaBy
namespace Go.Proofs.Ytinpeblpmmmdeaa
set_option linter.unusedVariables false
open Go.RowKit

theorem sJoin (x y : Int) (w : World) (h1 : 0 ≤ x ∧ x ≤ 65535) (h2 : 0 ≤ y ∧ y ≤ 65535) :
    Calls Try.prog 16 #[.int .u16 x, .int .u16 y] w fun e w' => e = .returned (.int .u16 (jn x y)) ∧ w = w' := by
  obtain ⟨a1, a2⟩ := h1
  obtain ⟨b1, b2⟩ := h2
  go_enter Try.func16, Try.ntmps16
  by_cases h : 65536 ≤ x + y
  · go_wp2
    go_ret
    refine ⟨ret_int ?_, rfl⟩
    unfold jn; rw [if_pos h]; omega
  · go_wp2
    go_ret
    refine ⟨ret_int ?_, rfl⟩
    unfold jn; rw [if_neg (by omega)]
theorem rJoin (x y : Int) (w : World) (h1 : 0 ≤ x ∧ x ≤ 65535) (h2 : 0 ≤ y ∧ y ≤ 65535) :
    Calls Try.prog 17 #[.int .u16 x, .int .u16 y] w fun e w' => e = .returned (.int .u16 (jn x y)) ∧ w = w' := by
  obtain ⟨a1, a2⟩ := h1
  obtain ⟨b1, b2⟩ := h2
  go_enter Try.func17, Try.ntmps17
  by_cases h : 65536 ≤ x + y
  · go_wp2
    go_ret
    refine ⟨ret_int ?_, rfl⟩
    unfold jn; rw [if_pos h]; omega
  · go_wp2
    go_ret
    refine ⟨ret_int ?_, rfl⟩
    unfold jn; rw [if_neg (by omega)]
theorem sWords (a : Option Addr) (len cap : Nat) (w : World) :
    Calls Try.prog 19 #[.slice a len cap] w fun e w' => e = .returned (.func (.func 20) #[] #[.pointer (some ⟨w.heap.size, 0, none⟩)]) ∧ w.alloc (.cells #[.slice a len cap] 22) = w' := by
  go_enter Try.func19, Try.ntmps19
  go_wp2
  go_ret
  exact ⟨rfl, rfl⟩
end Go.Proofs.Ytinpeblpmmmdeaa
