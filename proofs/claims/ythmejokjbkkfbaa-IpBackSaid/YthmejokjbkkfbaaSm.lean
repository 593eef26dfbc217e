/- The document's own answer to whether two slices of bytes are the same (stolonref01). -/
import Derived.Test.YthmejokjbkkfbaaBy
namespace Go.Proofs.Ythmejokjbkkfbaa
set_option linter.unusedVariables false
open Go.RowKit

/-- Two rows of bytes are the same. -/
def SameB (xs ys : List Int) : Bool := decide (xs = ys)

theorem rSame0 (a b : Option Addr) (c d : Nat) (w : World) :
    Calls Try.prog 16 #[.slice a 0 c, .slice b 0 d] w fun e w' => e = .returned (.bool true) ∧ Below w.heap.size w w' := by
  go_enter Try.func16, Try.ntmps16
  go_wp2
  refine wp_loop_rounds 1 ?_
  rw [rounds_succ]
  go_wp2
  go_ret
  exact ⟨rfl, Below.refl _ _⟩
theorem rSameNe (a b : Option Addr) (n m c d : Nat) (w : World) (h : n ≠ m) :
    Calls Try.prog 16 #[.slice a n c, .slice b m d] w fun e w' => e = .returned (.bool false) ∧ Below w.heap.size w w' := by
  have hne : ((n : Int) != (m : Int)) = true := by rw [bne_iff_ne]; omega
  have HN := Lib.hid h
  clear h
  go_enter Try.func16, Try.ntmps16
  go_wp2
  go_ret
  exact ⟨rfl, Below.refl _ _⟩

def PreEq (xs ys : List Int) (k : Nat) : Prop := ∀ j, j < k → xs.getD j 0 = ys.getD j 0

theorem pre_step {xs ys : List Int} {k : Nat} (h : PreEq xs ys k) (e : xs.getD k 0 = ys.getD k 0) : PreEq xs ys (k + 1) := by
  intro j hj
  rcases Nat.lt_succ_iff_lt_or_eq.1 hj with hj | rfl
  · exact h j hj
  · exact e
theorem ext_getD {xs ys : List Int} {n : Nat} (hx : xs.length = n) (hy : ys.length = n) (h : PreEq xs ys n) : xs = ys := by
  apply List.ext_getElem (hx.trans hy.symm)
  intro i h1 h2
  have := h i (by omega)
  simpa [List.getD_eq_getElem?_getD, h1, h2] using this

set_option maxHeartbeats 1000000 in
theorem rSame1 (b1 o1 b2 o2 n c d : Nat) (xs ys : List Int) (w : World) (hx : xs.length = n) (hy : ys.length = n) (hm : n ≤ 9223372036854775807)
    (h1 : ∀ k, k < n → w.cell? ⟨b1, o1 + k, none⟩ = some (.int .u8 (xs.getD k 0))) (h2 : ∀ k, k < n → w.cell? ⟨b2, o2 + k, none⟩ = some (.int .u8 (ys.getD k 0))) :
    Calls Try.prog 16 #[.slice (some ⟨b1, o1, none⟩) n c, .slice (some ⟨b2, o2, none⟩) n d] w fun e w' => e = .returned (.bool (SameB xs ys)) ∧ Below w.heap.size w w' := by
  have hne : ((n : Int) != (n : Int)) = false := by simp
  have HX := Lib.hid hx
  have HY := Lib.hid hy
  have H1 := Lib.hid h1
  have H2 := Lib.hid h2
  clear hx hy h1 h2
  go_enter Try.func16, Try.ntmps16
  go_wp2
  go_loopw [5] (fun i wr => ∃ k q : Nat, k ≤ n ∧ i = .int .i64 k ∧ PreEq xs ys k ∧ wr = w.drewN q) (fun i _ => n - (intOf i).toNat)
  case atStart => exact ⟨0, 0, by omega, rfl, fun j hj => absurd hj (by omega), rfl⟩
  case round =>
    obtain ⟨k, q, hk, rfl, hpre, rfl⟩ := hrel
    have HP := Lib.hid hpre
    clear hpre
    by_cases hlt : k < n
    · have c1 : ∀ q, (w.drewN q).cell? ⟨b1, o1 + k, none⟩ = some (.int .u8 (xs.getD k 0)) := fun q => H1.out k hlt
      have c2 : ∀ q, (w.drewN q).cell? ⟨b2, o2 + k, none⟩ = some (.int .u8 (ys.getD k 0)) := fun q => H2.out k hlt
      have i1 : (0 : Int) ≤ (k : Int) := by omega
      have i2 : (k : Int) < (n : Int) := by omega
      generalize hxk : xs.getD k 0 = x at *
      generalize hyk : ys.getD k 0 = y at *
      have HXK := Lib.hid hxk
      have HYK := Lib.hid hyk
      clear hxk hyk
      by_cases hxy : x = y
      · have hb : ((x : Int) != y) = false := by simp [hxy]
        have HXY := Lib.hid hxy
        clear hxy
        go_wp2
        go_quiet (fail)
        go_wp2
        go_roundw
        case rel => exact ⟨k + 1, _, by omega, by go_num, pre_step HP.out (HXK.out.trans (HXY.out.trans HYK.out.symm)), rfl⟩
        case measure => simp [intOf]; omega
      · have hb : ((x : Int) == y) = false := by simp [hxy]
        have hb' : ((x : Int) != y) = true := by simp [hxy]
        have hfin : SameB xs ys = false := by
          unfold SameB
          rw [decide_eq_false_iff_not]
          intro e; subst e; exact hxy (HXK.out.symm.trans HYK.out)
        have HF := Lib.hid hfin
        clear hxy hfin
        go_wp2
        go_quiet (fail)
        go_wp2
        go_ret
        exact ⟨congrArg (fun b => Ending.returned (Value.bool b)) HF.out.symm, bdrawn (bdrawn (Below.refl _ _) _) _⟩
    · obtain rfl : k = n := by omega
      have hfin : SameB xs ys = true := by
        unfold SameB
        rw [decide_eq_true_eq]
        exact ext_getD HX.out HY.out HP.out
      have HF := Lib.hid hfin
      clear hfin
      go_wp2
      go_ret
      exact ⟨congrArg (fun b => Ending.returned (Value.bool b)) HF.out.symm, bdrawn (Below.refl _ _) _⟩

/-- Two slices of bytes, whatever they are. -/
theorem rSame (a b : Option Addr) (n m c d : Nat) (xs ys : List Int) (w : World) (hx : xs.length = n) (hy : ys.length = m) (hm : n ≤ 9223372036854775807) (h1 : Bs w a xs) (h2 : Bs w b ys) :
    Calls Try.prog 16 #[.slice a n c, .slice b m d] w fun e w' => e = .returned (.bool (SameB xs ys)) ∧ Below w.heap.size w w' := by
  by_cases hnm : n = m
  · subst hnm
    rcases h1.1 with rfl | ⟨b1, o1, rfl, c1⟩
    · obtain rfl : n = 0 := by simpa using hx.symm
      obtain rfl : ys = [] := List.eq_nil_of_length_eq_zero hy
      exact rSame0 a b c d w
    · rcases h2.1 with rfl | ⟨b2, o2, rfl, c2⟩
      · obtain rfl : n = 0 := by simpa using hy.symm
        obtain rfl : xs = [] := List.eq_nil_of_length_eq_zero hx
        exact rSame0 _ b c d w
      · exact rSame1 b1 o1 b2 o2 n c d xs ys w hx hy hm (fun k hk => c1 k (by omega)) (fun k hk => c2 k (by omega))
  · have e : SameB xs ys = false := by
      unfold SameB
      rw [decide_eq_false_iff_not]
      intro e; subst e; omega
    rw [e]
    exact rSameNe a b n m c d w hnm
end Go.Proofs.Ythmejokjbkkfbaa
