/- Whether a row rises (package set's, and the document's). -/
import Derived.Test.YtllpmepmgnnoaaaGreatPd
namespace Go.Proofs.YtllpmepmgnnoaaaGreat
set_option linter.unusedVariables false
open Go.RowKit

set_option maxHeartbeats 1000000 in
theorem sRight (a : Option Addr) (n c : Nat) (xs : List Int) (w : World) (hx : xs.length = n) (hm : n ≤ 1000000000) (h : As w a xs) :
    Calls Tryz.prog 32 #[.slice a n c] w fun e w' => e = .returned (.bool (decide (Inc xs))) ∧ Below w.heap.size w w' := by
  have HX := Lib.hid hx
  have H := Lib.hid h
  clear hx h
  have YES : Hid (∀ k, n ≤ k + 1 → PreI xs k → decide (Inc xs) = true) := Lib.hid (fun k hk hp => by
    rw [decide_eq_true_eq, inc_adj]
    intro j hj
    exact hp j (by rw [HX.out] at hj; omega))
  have NO : Hid (∀ k, k + 1 < n → ¬ xs.getD k 0 < xs.getD (k + 1) 0 → decide (Inc xs) = false) := Lib.hid (fun k hk hp => by
    rw [decide_eq_false_iff_not, inc_adj]
    intro hh
    exact hp (hh k (by rw [HX.out]; exact hk)))
  go_enter Tryz.func32, Tryz.ntmps32
  go_wp2
  go_loopw [7] (fun v wr => ∃ k q : Nat, v = .int .i64 ((k : Int)) ∧ (k = 0 ∨ k + 1 ≤ n) ∧ PreI xs k ∧ wr = w.drewN q) (fun v _ => n + 1 - (intOf v).toNat)
  case atStart => exact ⟨0, 0, rfl, .inl rfl, fun j hj => absurd hj (by omega), by first | rfl | trivial⟩
  case round =>
    obtain ⟨k, q, rfl, hk, hp, rfl⟩ := hrel
    have HP := Lib.hid hp
    clear hp
    by_cases hlt : k + 1 < n
    · obtain ⟨b, off, rfl, hc⟩ := H.out.at (k := k) (by rw [HX.out]; omega)
      have c1 : ∀ q, (w.drewN q).cell? ⟨b, off + k, none⟩ = some (.int .u32 (xs.getD k 0)) := fun q => hc k (by rw [HX.out]; omega)
      have c2 : ∀ q, (w.drewN q).cell? ⟨b, off + (k + 1), none⟩ = some (.int .u32 (xs.getD (k + 1) 0)) := fun q => hc (k + 1) (by rw [HX.out]; omega)
      have i0 : (0 : Int) ≤ (k : Int) := by omega
      have i1 : (k : Int) < (n : Int) := by omega
      have i2 : (k : Int) + 1 < (n : Int) := by omega
      have i3 : (k : Int) < (n : Int) - 1 := by omega
      clear hc
      generalize hxv : xs.getD k 0 = x at *
      generalize hyv : xs.getD (k + 1) 0 = y at *
      have HXV := Lib.hid hxv
      have HYV := Lib.hid hyv
      clear hxv hyv
      by_cases hxy : x < y
      · have hd : decide (y ≤ x) = false := decide_eq_false (by omega)
        go_wp2
        go_quiet (fail)
        go_wp2
        go_roundw
        case rel => exact ⟨k + 1, _, by go_num, .inr (by omega), preI_step HP.out (by rw [HXV.out, HYV.out]; exact hxy), rfl⟩
        case measure => simp [intOf]; omega
      · have hd : decide (y ≤ x) = true := decide_eq_true (by omega)
        go_wp2
        go_quiet (fail)
        go_wp2
        go_ret
        exact ⟨ret_bool (NO.out k hlt (by rw [HXV.out, HYV.out]; exact hxy)).symm, bdrawn (bdrawn (Below.refl _ _) _) _⟩
    · have i3 : ¬ ((k : Int) < (n : Int) - 1) := by omega
      have i4 : ¬ ((k : Int) + 1 < (n : Int)) := by omega
      go_wp2
      go_ret
      exact ⟨ret_bool (YES.out k (by omega) HP.out).symm, bdrawn (Below.refl _ _) _⟩
end Go.Proofs.YtllpmepmgnnoaaaGreat
