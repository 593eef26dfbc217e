/- Whether a number is in a row; whether a row rises; whether two rows are the same (package set's, and the document's). -/
import Derived.Test.YtllpmepmgnnoaaaGreatPc
import Derived.Test.YtllpmepmgnnoaaaGreatNb
namespace Go.Proofs.YtllpmepmgnnoaaaGreat
set_option linter.unusedVariables false
open Go.RowKit

instance (l : List Int) : Decidable (Inc l) := inferInstanceAs (Decidable (List.Pairwise (· < ·) l))
theorem As.at {w : World} {a : Option Addr} {xs : List Int} (h : As w a xs) {k : Nat} (hk : k < xs.length) : ∃ b off, a = some ⟨b, off, none⟩ ∧ ∀ k, k < xs.length → w.cell? ⟨b, off + k, none⟩ = some (.int .u32 (xs.getD k 0)) := by
  rcases h.1 with e | h
  · rw [e] at hk; simp at hk
  · exact h
theorem mem_at {xs : List Int} {k : Nat} (hk : k < xs.length) : xs.getD k 0 ∈ xs := by
  rw [List.getD_eq_getElem?_getD, List.getElem?_eq_getElem hk]
  exact List.getElem_mem hk
theorem not_mem {xs : List Int} {x : Int} (h : ∀ j, j < xs.length → xs.getD j 0 ≠ x) : x ∉ xs := by
  intro hx
  obtain ⟨i, hi, e⟩ := List.getElem_of_mem hx
  have := h i hi
  rw [List.getD_eq_getElem?_getD, List.getElem?_eq_getElem hi] at this
  exact this e

set_option maxHeartbeats 1000000 in
theorem lIndex (a : Option Addr) (n c : Nat) (xs : List Int) (x : Int) (w : World) (hx : xs.length = n) (hm : n ≤ 1000000000) (h : As w a xs) :
    Calls Tryz.prog 102 #[.slice a n c, .int .u32 x] w fun e w' => (∃ r : Int, e = .returned (.int .i64 r) ∧ (decide (0 ≤ r) = decide (x ∈ xs))) ∧ w' = w := by
  have HX := Lib.hid hx
  have H := Lib.hid h
  clear hx h
  go_enter Tryz.func102, Tryz.ntmps102
  go_wp2
  go_loopw [8] (fun v wr => ∃ k : Nat, v = .int .i64 (k : Int) ∧ k ≤ n ∧ (∀ j, j < k → xs.getD j 0 ≠ x) ∧ wr = w) (fun v _ => n - (intOf v).toNat)
  case atStart => exact ⟨0, rfl, by omega, fun j hj => absurd hj (by omega), rfl⟩
  case round =>
    obtain ⟨k, rfl, hk, hno, rfl⟩ := hrel
    have HNO := Lib.hid hno
    clear hno
    by_cases hlt : k < n
    · obtain ⟨b, off, rfl, hc⟩ := H.out.at (k := k) (by rw [HX.out]; exact hlt)
      have c1 := hc k (by rw [HX.out]; exact hlt)
      have hkz : (k : Int) < (n : Int) := by omega
      clear hc
      by_cases he : x = xs.getD k 0
      · have hb : ((x : Int) == xs.getD k 0) = true := by simp [he]
        have HE := Lib.hid he
        clear he
        generalize hxv : xs.getD k 0 = y at *
        have HXV := Lib.hid hxv
        clear hxv
        go_wp2
        go_ret
        refine ⟨⟨k, rfl, ?_⟩, rfl⟩
        rw [decide_eq_true (by omega), decide_eq_true]
        rw [HE.out, ← HXV.out]
        exact mem_at (by rw [HX.out]; exact hlt)
      · have hb : ((x : Int) == xs.getD k 0) = false := by simpa using he
        have HE := Lib.hid he
        clear he
        generalize hxv : xs.getD k 0 = y at *
        have HXV := Lib.hid hxv
        clear hxv
        go_wp2
        go_roundw
        case rel =>
          refine ⟨k + 1, by go_num, by omega, fun j hj => ?_, by first | rfl | trivial⟩
          rcases Nat.lt_succ_iff_lt_or_eq.1 hj with hj | rfl
          · exact HNO.out j hj
          · rw [HXV.out]; exact fun e => HE.out e.symm
        case measure => simp [intOf]; omega
    · have hkn : k = n := by omega
      have HK := Lib.hid hkn
      clear hkn
      go_wp2
      go_ret
      refine ⟨⟨-1, rfl, ?_⟩, rfl⟩
      rw [decide_eq_false (by omega), decide_eq_false]
      exact not_mem fun j hj => HNO.out j (by rw [HK.out, ← HX.out]; exact hj)

theorem lContains (a : Option Addr) (n c : Nat) (xs : List Int) (x : Int) (w : World) (hx : xs.length = n) (hm : n ≤ 1000000000) (h : As w a xs) :
    Calls Tryz.prog 90 #[.slice a n c, .int .u32 x] w fun e w' => e = .returned (.bool (decide (x ∈ xs))) ∧ w' = w := by
  have HX := Lib.hid hx
  have H := Lib.hid h
  clear hx h
  go_enter Tryz.func90, Tryz.ntmps90
  go_wp2_with (go_at_call 102; refine (lIndex a n c xs x _ HX.out hm H.out).mono ?_; rintro e w' ⟨⟨r, rfl, hr⟩, rfl⟩; have HR := Lib.hid hr; clear hr)
  go_ret
  exact ⟨ret_bool HR.out, rfl⟩
theorem sHas (a : Option Addr) (n c : Nat) (xs : List Int) (x : Int) (w : World) (hx : xs.length = n) (hm : n ≤ 1000000000) (h : As w a xs) :
    Calls Tryz.prog 69 #[.slice a n c, .int .u32 x] w fun e w' => e = .returned (.bool (decide (x ∈ xs))) ∧ w' = w := by
  have HX := Lib.hid hx
  have H := Lib.hid h
  clear hx h
  go_enter Tryz.func69, Tryz.ntmps69
  go_wp2_with (go_at_call 90; refine (lContains a n c xs x _ HX.out hm H.out).mono ?_; rintro e w' ⟨rfl, rfl⟩)
  go_ret
  exact ⟨rfl, rfl⟩
set_option maxHeartbeats 1000000 in
theorem rHas (a : Option Addr) (n c : Nat) (xs : List Int) (x : Int) (w : World) (hx : xs.length = n) (hm : n ≤ 1000000000) (h : As w a xs) :
    Calls Tryz.prog 51 #[.slice a n c, .int .u32 x] w fun e w' => e = .returned (.bool (decide (x ∈ xs))) ∧ w' = w := by
  have HX := Lib.hid hx
  have H := Lib.hid h
  clear hx h
  go_enter Tryz.func51, Tryz.ntmps51
  go_wp2
  go_loopw [5] (fun v wr => ∃ k : Nat, v = .int .i64 (k : Int) ∧ k ≤ n ∧ (∀ j, j < k → xs.getD j 0 ≠ x) ∧ wr = w) (fun v _ => n - (intOf v).toNat)
  case atStart => exact ⟨0, rfl, by omega, fun j hj => absurd hj (by omega), rfl⟩
  case round =>
    obtain ⟨k, rfl, hk, hno, rfl⟩ := hrel
    have HNO := Lib.hid hno
    clear hno
    by_cases hlt : k < n
    · obtain ⟨b, off, rfl, hc⟩ := H.out.at (k := k) (by rw [HX.out]; exact hlt)
      have c1 := hc k (by rw [HX.out]; exact hlt)
      have hkz : (k : Int) < (n : Int) := by omega
      clear hc
      by_cases he : xs.getD k 0 = x
      · have hb : (xs.getD k 0 == (x : Int)) = true := by simpa using he
        have HE := Lib.hid he
        clear he
        generalize hxv : xs.getD k 0 = y at *
        have HXV := Lib.hid hxv
        clear hxv
        go_wp2
        go_ret
        refine ⟨ret_bool ?_, rfl⟩
        symm
        rw [decide_eq_true_eq]
        rw [← HE.out, ← HXV.out]
        exact mem_at (by rw [HX.out]; exact hlt)
      · have hb : (xs.getD k 0 == (x : Int)) = false := by simpa using he
        have HE := Lib.hid he
        clear he
        generalize hxv : xs.getD k 0 = y at *
        have HXV := Lib.hid hxv
        clear hxv
        go_wp2
        go_roundw
        case rel =>
          refine ⟨k + 1, by go_num, by omega, fun j hj => ?_, by first | rfl | trivial⟩
          rcases Nat.lt_succ_iff_lt_or_eq.1 hj with hj | rfl
          · exact HNO.out j hj
          · rw [HXV.out]; exact HE.out
        case measure => simp [intOf]; omega
    · have hkn : k = n := by omega
      have HK := Lib.hid hkn
      clear hkn
      go_wp2
      go_ret
      refine ⟨ret_bool ?_, rfl⟩
      symm
      rw [decide_eq_false_iff_not]
      exact not_mem fun j hj => HNO.out j (by rw [HK.out, ← HX.out]; exact hj)

/-- Rising, by neighbours. -/
theorem inc_adj : ∀ {l : List Int}, Inc l ↔ ∀ k, k + 1 < l.length → l.getD k 0 < l.getD (k + 1) 0
  | [] => by simp [inc_nil]
  | [x] => by simp [inc_cons, inc_nil]
  | x :: y :: l => by
    rw [inc_cons, inc_adj (l := y :: l)]
    constructor
    · rintro ⟨h1, h2⟩ k hk
      cases k with
      | zero => exact h1 y (List.mem_cons_self ..)
      | succ k =>
        have := h2 k (by simp at hk ⊢; omega)
        simpa using this
    · intro h
      have h2 : ∀ k, k + 1 < (y :: l).length → (y :: l).getD k 0 < (y :: l).getD (k + 1) 0 := fun k hk => by
        have := h (k + 1) (by simp at hk ⊢; omega)
        simpa using this
      refine ⟨fun z hz => ?_, h2⟩
      have hxy : x < y := by have := h 0 (by simp); simpa using this
      have hi := inc_adj.2 h2
      rw [inc_cons] at hi
      rcases List.mem_cons.1 hz with rfl | hz
      · exact hxy
      · have := hi.1 z hz; omega

def PreI (xs : List Int) (k : Nat) : Prop := ∀ j, j < k → xs.getD j 0 < xs.getD (j + 1) 0
theorem preI_step {xs : List Int} {k : Nat} (h : PreI xs k) (e : xs.getD k 0 < xs.getD (k + 1) 0) : PreI xs (k + 1) := by
  intro j hj
  rcases Nat.lt_succ_iff_lt_or_eq.1 hj with hj | rfl
  · exact h j hj
  · exact e
end Go.Proofs.YtllpmepmgnnoaaaGreat
