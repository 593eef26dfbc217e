/- Whether two slices of addresses are the same: slices.Equal, set.Same, and the document's own answer (stolonref01.Rows). -/
import Derived.Test.YtllpmepmgnnoaaaGreatNa
namespace Go.Proofs.YtllpmepmgnnoaaaGreat
set_option linter.unusedVariables false
open Go.RowKit

theorem rRows0 (a b : Option Addr) (c d : Nat) (w : World) :
    Calls Tryz.prog 28 #[.slice a 0 c, .slice b 0 d] w fun e w' => e = .returned (.bool true) ∧ Below w.heap.size w w' := by
  go_enter Tryz.func28, Tryz.ntmps28
  go_wp2
  refine wp_loop_rounds 1 ?_
  rw [rounds_succ]
  go_wp2
  go_ret
  exact ⟨rfl, Below.refl _ _⟩
theorem rRowsNe (a b : Option Addr) (n m c d : Nat) (w : World) (h : n ≠ m) :
    Calls Tryz.prog 28 #[.slice a n c, .slice b m d] w fun e w' => e = .returned (.bool false) ∧ Below w.heap.size w w' := by
  have hne : ((n : Int) != (m : Int)) = true := by rw [bne_iff_ne]; omega
  have HN := Lib.hid h
  clear h
  go_enter Tryz.func28, Tryz.ntmps28
  go_wp2
  go_ret
  exact ⟨rfl, Below.refl _ _⟩

set_option maxHeartbeats 1000000 in
theorem rRows1 (b1 o1 b2 o2 n c d : Nat) (xs ys : List Int) (w : World) (hx : xs.length = n) (hy : ys.length = n) (hm : n ≤ 9223372036854775807)
    (h1 : ∀ k, k < n → w.cell? ⟨b1, o1 + k, none⟩ = some (.int .u32 (xs.getD k 0))) (h2 : ∀ k, k < n → w.cell? ⟨b2, o2 + k, none⟩ = some (.int .u32 (ys.getD k 0))) :
    Calls Tryz.prog 28 #[.slice (some ⟨b1, o1, none⟩) n c, .slice (some ⟨b2, o2, none⟩) n d] w fun e w' => e = .returned (.bool (decide (xs = ys))) ∧ Below w.heap.size w w' := by
  have hne : ((n : Int) != (n : Int)) = false := by simp
  have HX := Lib.hid hx
  have HY := Lib.hid hy
  have H1 := Lib.hid h1
  have H2 := Lib.hid h2
  clear hx hy h1 h2
  go_enter Tryz.func28, Tryz.ntmps28
  go_wp2
  go_loopw [5] (fun i wr => ∃ k q : Nat, k ≤ n ∧ i = .int .i64 k ∧ PreA xs ys k ∧ wr = w.drewN q) (fun i _ => n - (intOf i).toNat)
  case atStart => exact ⟨0, 0, by omega, rfl, preA0 xs ys, rfl⟩
  case round =>
    obtain ⟨k, q, hk, rfl, hpre, rfl⟩ := hrel
    have HP := Lib.hid hpre
    clear hpre
    by_cases hlt : k < n
    · have c1 : ∀ q, (w.drewN q).cell? ⟨b1, o1 + k, none⟩ = some (.int .u32 (xs.getD k 0)) := fun q => H1.out k hlt
      have c2 : ∀ q, (w.drewN q).cell? ⟨b2, o2 + k, none⟩ = some (.int .u32 (ys.getD k 0)) := fun q => H2.out k hlt
      have i1 : (0 : Int) ≤ (k : Int) := by omega
      have i2 : (k : Int) < (n : Int) := by omega
      generalize hxk : xs.getD k 0 = x at *
      generalize hyk : ys.getD k 0 = y at *
      have HXK := Lib.hid hxk
      have HYK := Lib.hid hyk
      clear hxk hyk
      by_cases hxy : x = y
      · have hb : ((x : Int) != y) = false := by simp [hxy]
        have HXY := Lib.hid hxy
        clear hxy
        go_wp2
        go_quiet (fail)
        go_wp2
        go_roundw
        case rel => exact ⟨k + 1, _, by omega, by go_num, preA_step HP.out (HXK.out.trans (HXY.out.trans HYK.out.symm)), rfl⟩
        case measure => simp [intOf]; omega
      · have hb : ((x : Int) == y) = false := by simp [hxy]
        have hb' : ((x : Int) != y) = true := by simp [hxy]
        have hfin : decide (xs = ys) = false := by
          rw [decide_eq_false_iff_not]
          intro e; subst e; exact hxy (HXK.out.symm.trans HYK.out)
        have HF := Lib.hid hfin
        clear hxy hfin
        go_wp2
        go_quiet (fail)
        go_wp2
        go_ret
        exact ⟨congrArg (fun b => Ending.returned (Value.bool b)) HF.out.symm, bdrawn (bdrawn (Below.refl _ _) _) _⟩
    · obtain rfl : k = n := by omega
      have hfin : decide (xs = ys) = true := by
        rw [decide_eq_true_eq]
        exact preA_ext HX.out HY.out HP.out
      have HF := Lib.hid hfin
      clear hfin
      go_wp2
      go_ret
      exact ⟨congrArg (fun b => Ending.returned (Value.bool b)) HF.out.symm, bdrawn (Below.refl _ _) _⟩

/-- Two slices of addresses, whatever they are (stolonref01.Rows). -/
theorem rRows (a b : Option Addr) (n m c d : Nat) (xs ys : List Int) (w : World) (hx : xs.length = n) (hy : ys.length = m) (hm : n ≤ 9223372036854775807) (h1 : As w a xs) (h2 : As w b ys) :
    Calls Tryz.prog 28 #[.slice a n c, .slice b m d] w fun e w' => e = .returned (.bool (decide (xs = ys))) ∧ Below w.heap.size w w' := by
  by_cases hnm : n = m
  · subst hnm
    rcases h1.1 with rfl | ⟨b1, o1, rfl, c1⟩
    · obtain rfl : n = 0 := by simpa using hx.symm
      obtain rfl : ys = [] := List.eq_nil_of_length_eq_zero hy
      exact rRows0 a b c d w
    · rcases h2.1 with rfl | ⟨b2, o2, rfl, c2⟩
      · obtain rfl : n = 0 := by simpa using hy.symm
        obtain rfl : xs = [] := List.eq_nil_of_length_eq_zero hx
        exact rRows0 _ b c d w
      · exact rRows1 b1 o1 b2 o2 n c d xs ys w hx hy hm (fun k hk => c1 k (by omega)) (fun k hk => c2 k (by omega))
  · have e : decide (xs = ys) = false := by
      rw [decide_eq_false_iff_not]
      intro e; subst e; omega
    rw [e]
    exact rRowsNe a b n m c d w hnm
end Go.Proofs.YtllpmepmgnnoaaaGreat
