/- The library's heap sort. -/
import Derived.Test.YtllpmepmgnnoaaaGreatNs
import Derived.BigQuiet
namespace Go.Proofs.YtllpmepmgnnoaaaGreat
set_option linter.unusedVariables false
open Go.RowKit
open Go.Sort (siftDown heapBuild heapPop)

theorem sd_stop {hi first root : Nat} {d : Array Int} (h : hi ≤ 2 * root + 1) : siftDown ltI hi first root d = d := by
  rw [siftDown, dif_pos h]
/-- The greater child. -/
def Kid (d : Array Int) (hi first root c : Nat) : Prop :=
  (c = 2 * root + 2 ∧ 2 * root + 2 < hi ∧ ltI d[first + (2 * root + 1)]! d[first + (2 * root + 1) + 1]! = true) ∨ (c = 2 * root + 1 ∧ (hi ≤ 2 * root + 2 ∨ ltI d[first + (2 * root + 1)]! d[first + (2 * root + 1) + 1]! = false))
theorem sd_leaf {hi first root c : Nat} {d : Array Int} (h : 2 * root + 1 < hi) (hc : Kid d hi first root c) (hl : ltI d[first + root]! d[first + c]! = false) : siftDown ltI hi first root d = d := by
  rw [siftDown, dif_neg (by omega)]
  rcases hc with ⟨rfl, h2, h3⟩ | ⟨rfl, h2⟩
  · rw [if_pos (by simp only [h3, Bool.and_true]; exact decide_eq_true (by omega)), if_pos (by simp only [hl, Bool.not_false])]
  · rw [if_neg, if_pos (by simp only [hl, Bool.not_false])]
    rcases h2 with h2 | h2
    · rw [decide_eq_false (by omega)]; simp
    · rw [h2]; simp
theorem sd_go {hi first root c : Nat} {d : Array Int} (h : 2 * root + 1 < hi) (hc : Kid d hi first root c) (hl : ltI d[first + root]! d[first + c]! = true) : siftDown ltI hi first root d = siftDown ltI hi first c (Go.Sort.swp d (first + root) (first + c)) := by
  rw [siftDown, dif_neg (by omega)]
  rcases hc with ⟨rfl, h2, h3⟩ | ⟨rfl, h2⟩
  · rw [if_pos (by simp only [h3, Bool.and_true]; exact decide_eq_true (by omega)), if_neg (by simp only [hl, Bool.not_true]; exact Bool.false_ne_true), dif_pos h2]
  · rw [if_neg, if_neg (by simp only [hl, Bool.not_true]; exact Bool.false_ne_true)]
    rcases h2 with h2 | h2
    · rw [decide_eq_false (by omega)]; simp
    · rw [h2]; simp
theorem kid_lt {d : Array Int} {hi first root c : Nat} (hc : Kid d hi first root c) (h : 2 * root + 1 < hi) : root < c ∧ c < hi := by
  rcases hc with ⟨rfl, h2, _⟩ | ⟨rfl, _⟩ <;> omega

set_option maxHeartbeats 4000000 in
theorem sSift (g off cap lo hi first n : Nat) (d : Array Int) (w : World) (h : Arr w g off d) (hn : d.size = n) (hh : first + hi ≤ n) (hlo : lo ≤ n) (hsz : n < 1152921504606846976) :
    Calls Tryz.prog 96 #[.slice (some ⟨g, off, none⟩) n cap, .int .i64 lo, .int .i64 hi, .int .i64 first] w fun e w' =>
      e = .returned (.tuple #[]) ∧ Arr w' g off (siftDown ltI hi first lo d) ∧ But1 g w w' := by
  have HA := Lib.hid h
  clear h
  go_enter Tryz.func96, Tryz.ntmps96
  go_wp2
  go_loopw [8] (fun v wr => ∃ (root : Nat) (dk : Array Int), v = .int .i64 root ∧ root ≤ n ∧ dk.size = n ∧ Arr wr g off dk ∧ But1 g w wr ∧
      siftDown ltI hi first root dk = siftDown ltI hi first lo d) (fun v _ => n + hi - (intOf v).toNat)
  case atStart => exact ⟨lo, d, rfl, hlo, hn, HA.out, But1.refl _ _, rfl⟩
  case round =>
    obtain ⟨root, dk, rfl, hro, hsk, hA, hB, hO⟩ := hrel
    obtain ⟨G, hG, hcw, hfw⟩ := hA.fam hsk
    have HG := Lib.hid hG
    have HO := Lib.hid hO
    have HAK := Lib.hid hA
    have HBK := Lib.hid hB
    clear hG hO hA hB
    by_cases h1 : hi ≤ 2 * root + 1
    · go_wp2
      go_end0
      exact ⟨rfl, by rw [← HO.out, sd_stop h1]; exact HAK.out, HBK.out⟩
    · have FIN : ∀ (c q : Nat), Kid dk hi first root c → ∀ x, x = G (first + c) → ltI (G (first + root)) x = false → Arr (wr.drewN q) g off (siftDown ltI hi first lo d) ∧ But1 g w (wr.drewN q) := fun c q hc x ex hl =>
        ⟨by rw [← HO.out, sd_leaf (by omega) hc (by rw [← HG.out, ← HG.out, ← ex]; exact hl)]; exact HAK.out.drewN q, HBK.out.drewN q⟩
      have GO : ∀ (c q : Nat), Kid dk hi first root c → ∀ x j, x = G (first + c) → j = first + c → ltI (G (first + root)) x = true → ∃ (root' : Nat) (dk' : Array Int), Value.int .i64 (c : Int) = .int .i64 (root' : Int) ∧ root' ≤ n ∧ dk'.size = n ∧
          Arr (((wr.drewN q).setCell ⟨g, off + (first + root), none⟩ (.int .u32 x)).setCell ⟨g, off + j, none⟩ (.int .u32 (G (first + root)))) g off dk' ∧
          But1 g w (((wr.drewN q).setCell ⟨g, off + (first + root), none⟩ (.int .u32 x)).setCell ⟨g, off + j, none⟩ (.int .u32 (G (first + root)))) ∧
          siftDown ltI hi first root' dk' = siftDown ltI hi first lo d := fun c q hc x j ex ej hl => by
        have hk := kid_lt hc (by omega)
        subst ex ej
        refine ⟨c, Go.Sort.swp dk (first + root) (first + c), rfl, by omega, by rw [Go.Sort.size_swp]; exact hsk, ?_, (HBK.out.drewN q).swp _ _ _ _, ?_⟩
        · rw [HG.out, HG.out]
          exact (HAK.out.drewN q).swp _ _ (by omega) (by omega)
        · rw [← HO.out, sd_go (by omega) hc (by rw [← HG.out, ← HG.out]; exact hl)]
      have e1 : first + 2 * root + 1 = first + (2 * root + 1) := by omega
      have e2 : first + 2 * root + 2 = first + (2 * root + 1) + 1 := by omega
      have KR : 2 * root + 2 < hi → ltI (G (first + 2 * root + 1)) (G (first + 2 * root + 2)) = true → Kid dk hi first root (2 * root + 2) := fun a b => .inl ⟨rfl, a, by rw [← HG.out, ← HG.out, ← e2, ← e1]; exact b⟩
      have KL : (hi ≤ 2 * root + 2 ∨ ltI (G (first + 2 * root + 1)) (G (first + 2 * root + 2)) = false) → Kid dk hi first root (2 * root + 1) := fun a => .inr ⟨rfl, a.imp id fun b => by rw [← HG.out, ← HG.out, ← e2, ← e1]; exact b⟩
      have FIN := Lib.hid FIN
      have GO := Lib.hid GO
      have KR := Lib.hid KR
      have KL := Lib.hid KL
      clear e1 e2 HG HO HAK HBK
      by_cases h2 : 2 * root + 2 < hi
      · have h2z : 2 * (root : Int) + 1 + 1 < (hi : Int) := by omega
        go_wp2_with fail
        go_big_quiet (first | (go_at_call 85; refine Calls.quiet_of_same (sLess _ _ _)))
        go_wp2_with fail
        · have K := Lib.hid (KR.out h2 (by assumption))
          revert nq; intro nq1
          have FIN2 := Lib.hid (fun q x ex hl => FIN.out (2 * root + 2) (nq1 + q) K.out x ex hl)
          have GO2 := Lib.hid (fun q x j ex ej hl => GO.out (2 * root + 2) (nq1 + q) K.out x j ex ej hl)
          simp only [← World.drewN_drewN] at FIN2 GO2
          have hcw2 : ∀ t, t < n → (wr.drewN nq1).cell? ⟨g, off + t, none⟩ = some (.int .u32 (G t)) := hcw
          have hfw2 : ∀ t, t < n → (wr.drewN nq1).frozen? ⟨g, off + t, none⟩ = false := hfw
          clear hcw hfw FIN GO KR KL
          generalize wr.drewN nq1 = wr2 at hcw2 hfw2 FIN2 GO2 ⊢
          go_big_quiet (first | (go_at_call 85; refine Calls.quiet_of_same (sLess _ _ _)))
          go_wp2_with fail
          · (try simp only [Exit.inBlock, Exit.then]); refine bodyPost_ret (results_none rfl _ _ _) rfl ?_
            have hb : (!ltI (G (first + root)) (G (first + 2 * root + 2))) = true := by assumption
            rw [Bool.not_eq_true'] at hb
            exact ⟨rfl, FIN2.out _ _ (congrArg G (by omega)) hb⟩
          · have hl : (!ltI (G (first + root)) (G (first + 2 * root + 2))) = false := by assumption
            rw [Bool.not_eq_false'] at hl
            go_region
            go_wp2
            go_roundw
            case rel => exact GO2.out _ _ _ (congrArg G (by omega)) (by omega) hl
            case measure => simp [intOf]; omega
        · have K := Lib.hid (KL.out (.inr (by assumption)))
          revert nq; intro nq1
          have FIN2 := Lib.hid (fun q x ex hl => FIN.out (2 * root + 1) (nq1 + q) K.out x ex hl)
          have GO2 := Lib.hid (fun q x j ex ej hl => GO.out (2 * root + 1) (nq1 + q) K.out x j ex ej hl)
          simp only [← World.drewN_drewN] at FIN2 GO2
          have hcw2 : ∀ t, t < n → (wr.drewN nq1).cell? ⟨g, off + t, none⟩ = some (.int .u32 (G t)) := hcw
          have hfw2 : ∀ t, t < n → (wr.drewN nq1).frozen? ⟨g, off + t, none⟩ = false := hfw
          clear hcw hfw FIN GO KR KL
          generalize wr.drewN nq1 = wr2 at hcw2 hfw2 FIN2 GO2 ⊢
          go_big_quiet (first | (go_at_call 85; refine Calls.quiet_of_same (sLess _ _ _)))
          go_wp2_with fail
          · (try simp only [Exit.inBlock, Exit.then]); refine bodyPost_ret (results_none rfl _ _ _) rfl ?_
            have hb : (!ltI (G (first + root)) (G (first + 2 * root + 1))) = true := by assumption
            rw [Bool.not_eq_true'] at hb
            exact ⟨rfl, FIN2.out _ _ (congrArg G (by omega)) hb⟩
          · have hl : (!ltI (G (first + root)) (G (first + 2 * root + 1))) = false := by assumption
            rw [Bool.not_eq_false'] at hl
            go_region
            go_wp2
            go_roundw
            case rel => exact GO2.out _ _ _ (congrArg G (by omega)) (by omega) hl
            case measure => simp [intOf]; omega
      · have h2z : decide (2 * (root : Int) + 1 + 1 < (hi : Int)) = false := decide_eq_false (by omega)
        go_wp2_with fail
        go_big_quiet (first | (go_at_call 85; refine Calls.quiet_of_same (sLess _ _ _)))
        go_wp2_with fail
        have K := Lib.hid (KL.out (.inl (by omega)))
        revert nq; intro nq1
        have FIN2 := Lib.hid (fun q x ex hl => FIN.out (2 * root + 1) (nq1 + q) K.out x ex hl)
        have GO2 := Lib.hid (fun q x j ex ej hl => GO.out (2 * root + 1) (nq1 + q) K.out x j ex ej hl)
        simp only [← World.drewN_drewN] at FIN2 GO2
        have hcw2 : ∀ t, t < n → (wr.drewN nq1).cell? ⟨g, off + t, none⟩ = some (.int .u32 (G t)) := hcw
        have hfw2 : ∀ t, t < n → (wr.drewN nq1).frozen? ⟨g, off + t, none⟩ = false := hfw
        clear hcw hfw FIN GO KR KL
        generalize wr.drewN nq1 = wr2 at hcw2 hfw2 FIN2 GO2 ⊢
        go_big_quiet (first | (go_at_call 85; refine Calls.quiet_of_same (sLess _ _ _)))
        go_wp2_with fail
        · (try simp only [Exit.inBlock, Exit.then]); refine bodyPost_ret (results_none rfl _ _ _) rfl ?_
          have hb : (!ltI (G (first + root)) (G (first + 2 * root + 1))) = true := by assumption
          rw [Bool.not_eq_true'] at hb
          exact ⟨rfl, FIN2.out _ _ (congrArg G (by omega)) hb⟩
        · have hl : (!ltI (G (first + root)) (G (first + 2 * root + 1))) = false := by assumption
          rw [Bool.not_eq_false'] at hl
          go_region
          go_wp2
          go_roundw
          case rel => exact GO2.out _ _ _ (congrArg G (by omega)) (by omega) hl
          case measure => simp [intOf]; omega
end Go.Proofs.YtllpmepmgnnoaaaGreat
