/- Contracts of package sum: words. -/
import Derived.Test.YthmejokjbkkfbaaSp
import Derived.Test.YthmejokjbkkfbaaBy
namespace Go.Proofs.Ythmejokjbkkfbaa
set_option linter.unusedVariables false
open Go.RowKit

theorem sJoin (x y : Int) (w : World) (h1 : 0 ≤ x ∧ x ≤ 65535) (h2 : 0 ≤ y ∧ y ≤ 65535) :
    Calls Try.prog 44 #[.int .u16 x, .int .u16 y] w fun e w' => e = .returned (.int .u16 (jn x y)) ∧ w = w' := by
  obtain ⟨a1, a2⟩ := h1
  obtain ⟨b1, b2⟩ := h2
  go_enter Try.func44, Try.ntmps44
  by_cases h : 65536 ≤ x + y
  · go_wp2
    go_ret
    refine ⟨ret_int ?_, rfl⟩
    unfold jn; rw [if_pos h]; omega
  · go_wp2
    go_ret
    refine ⟨ret_int ?_, rfl⟩
    unfold jn; rw [if_neg (by omega)]
theorem rJoin (x y : Int) (w : World) (h1 : 0 ≤ x ∧ x ≤ 65535) (h2 : 0 ≤ y ∧ y ≤ 65535) :
    Calls Try.prog 37 #[.int .u16 x, .int .u16 y] w fun e w' => e = .returned (.int .u16 (jn x y)) ∧ w = w' := by
  obtain ⟨a1, a2⟩ := h1
  obtain ⟨b1, b2⟩ := h2
  go_enter Try.func37, Try.ntmps37
  by_cases h : 65536 ≤ x + y
  · go_wp2
    go_ret
    refine ⟨ret_int ?_, rfl⟩
    unfold jn; rw [if_pos h]; omega
  · go_wp2
    go_ret
    refine ⟨ret_int ?_, rfl⟩
    unfold jn; rw [if_neg (by omega)]
theorem sWords (a : Option Addr) (len cap : Nat) (w : World) :
    Calls Try.prog 43 #[.slice a len cap] w fun e w' => e = .returned (.func (.func 45) #[] #[.pointer (some ⟨w.heap.size, 0, none⟩)]) ∧ w.alloc (.cells #[.slice a len cap] 27) = w' := by
  go_enter Try.func43, Try.ntmps43
  go_wp2
  go_ret
  exact ⟨rfl, rfl⟩
end Go.Proofs.Ythmejokjbkkfbaa
