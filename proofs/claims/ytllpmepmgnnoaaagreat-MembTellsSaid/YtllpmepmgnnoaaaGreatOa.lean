/- The library's sort: partial insertion sort. -/
import Derived.Test.YtllpmepmgnnoaaaGreatNs
import Derived.Deep.Cut
import Derived.Deep.CutRange
import Derived.BigQuiet
namespace Go.Proofs.YtllpmepmgnnoaaaGreat
set_option linter.unusedVariables false
open Go.RowKit
open Go.Sort (PermIn scanSorted shiftDown shiftUp partialIns)

theorem scan_go {b i : Nat} {d : Array Int} (h : i < b) (hl : ltI d[i]! d[i - 1]! = false) : scanSorted ltI d b i = scanSorted ltI d b (i + 1) := by
  rw [scanSorted.eq_1 ltI d b i, if_pos (by simp [h, hl])]
theorem scan_stop {b i : Nat} {d : Array Int} (h : i < b → ltI d[i]! d[i - 1]! = true) : scanSorted ltI d b i = i := by
  rw [scanSorted, if_neg]
  by_cases e : i < b
  · simp [h e]
  · simp [e]
theorem shD_stop {j : Nat} {d : Array Int} (h : 1 ≤ j → ltI d[j]! d[j - 1]! = false) : shiftDown ltI j d = d := by
  cases j with
  | zero => rw [shiftDown]
  | succ k =>
    have := h (by omega)
    rw [Nat.add_sub_cancel] at this
    rw [shiftDown, if_pos (by simp [this])]
theorem shD_go {j : Nat} {d : Array Int} (h : 1 ≤ j) (hl : ltI d[j]! d[j - 1]! = true) : shiftDown ltI j d = shiftDown ltI (j - 1) (Go.Sort.swp d j (j - 1)) := by
  cases j with
  | zero => omega
  | succ k =>
    rw [Nat.add_sub_cancel] at hl ⊢
    rw [shiftDown, if_neg (by simp [hl])]
theorem shU_stop {b j : Nat} {d : Array Int} (h : j < b → ltI d[j]! d[j - 1]! = false) : shiftUp ltI b j d = d := by
  rw [shiftUp]
  by_cases e : j < b
  · rw [if_pos e, if_pos (by simp [h e])]
  · rw [if_neg e]
theorem shU_go {b j : Nat} {d : Array Int} (h : j < b) (hl : ltI d[j]! d[j - 1]! = true) : shiftUp ltI b j d = shiftUp ltI b (j + 1) (Go.Sort.swp d j (j - 1)) := by
  rw [shiftUp.eq_1 ltI b j, if_pos h, if_neg (by simp [hl])]

theorem pi_true {a b s i k : Nat} {d : Array Int} (h : scanSorted ltI d b i = k) (hk : k = b) : partialIns ltI a b (s + 1) i d = (d, true) := by
  rw [partialIns]
  simp only [h]
  rw [if_pos hk]
theorem pi_false {a b s i k : Nat} {d : Array Int} (h : scanSorted ltI d b i = k) (hk : k ≠ b) (hl : b - a < 50) : partialIns ltI a b (s + 1) i d = (d, false) := by
  rw [partialIns]
  simp only [h]
  rw [if_neg hk, if_pos hl]
theorem pi_next {a b s i k : Nat} {d d3 d4 : Array Int} (h : scanSorted ltI d b i = k) (hk : k ≠ b) (hl : ¬ b - a < 50) (h3 : d3 = if k - a ≥ 2 then shiftDown ltI (k - 1) (Go.Sort.swp d k (k - 1)) else Go.Sort.swp d k (k - 1)) (h4 : d4 = if b - k ≥ 2 then shiftUp ltI b (k + 1) d3 else d3) :
    partialIns ltI a b (s + 1) i d = partialIns ltI a b s k d4 := by
  rw [partialIns]
  simp only [h]
  rw [if_neg hk, if_neg hl, ← h3, ← h4]
theorem shD_size (j : Nat) : ∀ d : Array Int, (shiftDown ltI j d).size = d.size := by
  induction j with
  | zero => intro d; rw [shiftDown]
  | succ j ih =>
    intro d
    rw [shiftDown]
    split
    · rfl
    · rw [ih, Go.Sort.size_swp]
theorem shU_size (b j : Nat) (d : Array Int) : (shiftUp ltI b j d).size = d.size := by
  induction hm : b - j using Nat.strongRecOn generalizing j d with
  | _ m ih =>
    rw [shiftUp]
    split
    · split
      · rfl
      · rw [ih (b - (j + 1)) (by omega) _ _ rfl, Go.Sort.size_swp]
    · rfl

set_option maxRecDepth 100000 in
set_option maxHeartbeats 8000000 in
theorem sPartial (g off cap a b n : Nat) (d : Array Int) (w : World) (h : Arr w g off d) (hn : d.size = n) (hab : a + 12 < b) (hb : b ≤ n) (hsz : n < 1152921504606846976) (hbl : Go.Sort.Below ltI a b d) :
    Calls Tryz.prog 84 #[.slice (some ⟨g, off, none⟩) n cap, .int .i64 a, .int .i64 b] w fun e w' =>
      ∃ (ok : Bool) (d' : Array Int), e = .returned (.bool ok) ∧ PermIn a b d d' ∧ (ok = true → Go.Sort.SortedIn ltI a b d') ∧ Arr w' g off d' ∧ But1 g w w' := by
  have hall := Go.Sort.partialInsertionSort_holds ltI_swo d a b (by omega) (by omega) hbl
  have FIN : ∀ (r : Array Int × Bool), r = Go.Sort.partialInsertionSort ltI d a b → ∀ w', Arr w' g off r.1 → But1 g w w' → ∃ (ok : Bool) (d' : Array Int), Ending.returned (.bool r.2) = .returned (.bool ok) ∧ PermIn a b d d' ∧ (ok = true → Go.Sort.SortedIn ltI a b d') ∧ Arr w' g off d' ∧ But1 g w w' := by
    rintro r rfl w' h1 h2
    exact ⟨_, _, rfl, hall.1, hall.2, h1, h2⟩
  have FIN := Lib.hid FIN
  have HA := Lib.hid h
  clear h hbl hall
  go_enter Tryz.func84, Tryz.ntmps84
  go_wp2_with fail
  go_loopw [7, 8] (fun v7 v8 wr => ∃ (s i : Nat) (dk : Array Int), v7 = .int .i64 (i : Int) ∧ v8 = .int .i64 (5 - (s : Int)) ∧ s ≤ 5 ∧ a < i ∧ i ≤ b ∧ dk.size = n ∧ Arr wr g off dk ∧ But1 g w wr ∧ partialIns ltI a b s i dk = Go.Sort.partialInsertionSort ltI d a b)
    (fun v7 v8 _ => (5 - intOf v8).toNat)
  case atStart => exact ⟨5, a + 1, d, by go_num, rfl, Nat.le_refl _, by omega, by omega, hn, HA.out, But1.refl _ _, rfl⟩
  case round =>
    obtain ⟨s, i, dk, rfl, rfl, hs, hai, hib, hsk, hA, hB, hO⟩ := hrel
    clear HA
    have HO := Lib.hid hO
    have HA := Lib.hid hA
    have HB := Lib.hid hB
    clear hO hA hB
    cases s with
    | zero =>
      go_wp2_with fail
      go_ret
      exact FIN.out (dk, false) (by rw [← HO.out, partialIns]) _ HA.out HB.out
    | succ s =>
      have es : (5 : Int) - ((s + 1 : Nat) : Int) < 5 := by omega
      go_wp2_with fail
      go_loopw [7] (fun v wr => ∃ i' : Nat, v = .int .i64 (i' : Int) ∧ a < i' ∧ i' ≤ b ∧ Arr wr g off dk ∧ But1 g w wr ∧ scanSorted ltI dk b i' = scanSorted ltI dk b i) (fun v _ => b - (intOf v).toNat)
      case atStart => exact ⟨i, rfl, hai, hib, HA.out, HB.out, rfl⟩
      case round =>
        obtain ⟨k, rfl, hak, hkb, hA, hB, hS⟩ := hrel
        clear HA HB
        obtain ⟨G, hG, hcw, hfw⟩ := hA.fam hsk
        have HG := Lib.hid hG
        have HS := Lib.hid hS
        have HA := Lib.hid hA
        have HB := Lib.hid hB
        clear hG hS hA hB
        go_upto_region 5 with fail
        go_cut [32] from 17 to 34 (fun t wx => t = .bool (decide (k < b) && !ltI (G k) (G (k - 1))) ∧ Arr wx g off dk ∧ But1 g w wx)
        case first =>
          by_cases hkl : k < b
          · have hklz : (k : Int) < (b : Int) := by omega
            go_big_quiet (first | (go_at_call 85; refine Calls.quiet_of_same (sLess _ _ _)))
            go_wp2_with fail
            go_meet
            case rel => exact ⟨by simp [hkl], HA.out.drewN _, HB.out.drewN _⟩
          · have hklz : decide ((k : Int) < (b : Int)) = false := decide_eq_false (by omega)
            go_big_quiet (first | (go_at_call 85; refine Calls.quiet_of_same (sLess _ _ _)))
            go_wp2_with fail
            go_meet
            case rel => exact ⟨by simp [hkl], HA.out.drewN _, HB.out.drewN _⟩
        case rest =>
          obtain ⟨rfl, hA, hB⟩ := hcut
          clear HA HB hcw hfw
          have HA := Lib.hid hA
          have HB := Lib.hid hB
          clear hA hB
          cases hc : (decide (k < b) && !ltI (G k) (G (k - 1)))
          · have hst : scanSorted ltI dk b i = k := by
              rw [← HS.out]
              refine scan_stop fun hlt => ?_
              rw [HG.out, HG.out] at hc
              simpa [hlt] using hc
            have HO2 := Lib.hid hst
            clear hst hc
            go_wp2_with fail
            · have hk : k = b := by
                have h : ((k : Int) == (b : Int)) = true := by assumption
                have := eq_of_beq h
                omega
              go_ret
              exact FIN.out (dk, true) (by rw [← HO.out, pi_true HO2.out hk]) _ HA.out HB.out
            · have hk : ¬ k = b := by
                have h : ((k : Int) == (b : Int)) = false := by assumption
                intro e
                rw [e] at h
                simp at h
              have hl : b - a < 50 := by omega
              go_ret
              exact FIN.out (dk, false) (by rw [← HO.out, pi_false HO2.out hk hl]) _ HA.out HB.out
            · have hk : ¬ k = b := by
                have h : ((k : Int) == (b : Int)) = false := by assumption
                intro e
                rw [e] at h
                simp at h
              have hl : ¬ b - a < 50 := by omega
              have hkb' : k < b := by omega
              clear HG HS
              obtain ⟨G, hG, hcw, hfw⟩ := HA.out.fam hsk
              have HG := Lib.hid hG
              clear hG

              go_region
              have hA2 : Arr (((wc.setCell ⟨g, off + k, none⟩ (.int .u32 (G (k - 1)))).setCell ⟨g, off + (k - 1), none⟩ (.int .u32 (G k))).drewN 1) g off (Go.Sort.swp dk k (k - 1)) := by
                rw [HG.out, HG.out]
                exact ((HA.out).swp _ _ (by omega) (by omega)).drewN 1
              have HA2 := Lib.hid hA2
              have HB2 := Lib.hid ((HB.out.swp (off + k) (off + (k - 1)) (.int .u32 (G (k - 1))) (.int .u32 (G k))).drewN 1)
              have hsk2 : (Go.Sort.swp dk k (k - 1)).size = n := by rw [Go.Sort.size_swp]; exact hsk
              obtain ⟨d2, hd2⟩ : ∃ d2, d2 = Go.Sort.swp dk k (k - 1) := ⟨_, rfl⟩
              obtain ⟨d3, hd3⟩ : ∃ d3, d3 = if k - a ≥ 2 then shiftDown ltI (k - 1) d2 else d2 := ⟨_, rfl⟩
              obtain ⟨d4, hd4⟩ : ∃ d4, d4 = if b - k ≥ 2 then shiftUp ltI b (k + 1) d3 else d3 := ⟨_, rfl⟩
              rw [← hd2] at hA2 hsk2
              have HO3 : Hid (partialIns ltI a b s k d4 = Go.Sort.partialInsertionSort ltI d a b) := Lib.hid (by rw [← HO.out]; exact (pi_next HO2.out hk hl (by rw [← hd2]; exact hd3) hd4).symm)
              have hs3 : d3.size = n := by rw [hd3]; split; · rw [shD_size]; exact hsk2
                                           · exact hsk2
              have hs4 : d4.size = n := by rw [hd4]; split; · rw [shU_size]; exact hs3
                                           · exact hs3
              have HA3 := Lib.hid hA2
              have HD3 := Lib.hid hd3
              have HD4 := Lib.hid hd4
              clear hA2 HA2 hcw hfw HA HB HO HO2 HG hd2 hd3 hd4 hsk
              go_upto_if 61 with fail
              go_cut [] from 13 to 132 (fun wx => Arr wx g off d3 ∧ But1 g w wx)
              case first =>
                by_cases h2 : k - a ≥ 2
                · have h2z : 2 ≤ (k : Int) - (a : Int) := by omega
                  go_wp2_with fail
                  go_loopw [9] (fun v wr => ∃ (j : Nat) (dj : Array Int), v = .int .i64 (j : Int) ∧ j ≤ k - 1 ∧ dj.size = n ∧ Arr wr g off dj ∧ But1 g w wr ∧ shiftDown ltI j dj = d3) (fun v _ => (intOf v).toNat)
                  case atStart => exact ⟨k - 1, d2, by congr 1; omega, Nat.le_refl _, hsk2, HA3.out, HB2.out, by rw [HD3.out, if_pos h2]⟩
                  case round =>
                    obtain ⟨j, dj, rfl, hj, hsj, hA, hB, hS⟩ := hrel
                    clear HA3 HB2
                    obtain ⟨G, hG, hcw, hfw⟩ := hA.fam hsj
                    have HG := Lib.hid hG
                    have HS := Lib.hid hS
                    have HA := Lib.hid hA
                    have HB := Lib.hid hB
                    clear hG hS hA hB
                    by_cases h1 : 1 ≤ j
                    · have h1z : (1 : Int) ≤ (j : Int) := by omega
                      go_wp2_with fail
                      go_big_quiet (first | (go_at_call 85; refine Calls.quiet_of_same (sLess _ _ _)))
                      go_wp2_with fail
                      · have hl : (!ltI (G j) (G (j - 1))) = true := by assumption
                        go_meet
                        case rel =>
                          rw [Bool.not_eq_true', HG.out, HG.out] at hl
                          rw [← HS.out, shD_stop (fun _ => hl)]
                          exact ⟨HA.out.drewN _, HB.out.drewN _⟩
                      · have hl : (!ltI (G j) (G (j - 1))) = false := by assumption
                        rw [Bool.not_eq_false'] at hl
                        go_region
                        go_wp2_with fail
                        go_roundw
                        case rel =>
                          refine ⟨j - 1, Go.Sort.swp dj j (j - 1), by congr 1; omega, by omega, by rw [Go.Sort.size_swp]; exact hsj, ?_, (HB.out.drewN _).swp _ _ _ _, ?_⟩
                          · rw [HG.out, HG.out]
                            exact (HA.out.drewN _).swp _ _ (by omega) (by omega)
                          · rw [← HS.out, shD_go h1 (by rw [← HG.out, ← HG.out]; exact hl)]
                        case measure => simp [intOf]; omega
                    · go_wp2_with fail
                      go_meet
                      case rel =>
                        rw [← HS.out, shD_stop (fun h => absurd h h1)]
                        exact ⟨HA.out, HB.out⟩
                · have h2z : ¬ (2 ≤ (k : Int) - (a : Int)) := by omega
                  go_wp2_with fail
                  go_meet
                  case rel => exact ⟨by rw [HD3.out, if_neg h2]; exact HA3.out, HB2.out⟩
              case rest =>
                obtain ⟨hA, hB⟩ := hcut
                clear HA3 HB2
                have HA3 := Lib.hid hA
                have HB2 := Lib.hid hB
                clear hA hB
                by_cases h2 : b - k ≥ 2
                · have h2z : 2 ≤ (b : Int) - (k : Int) := by omega
                  go_wp2_with fail
                  go_loopw [10] (fun v wr => ∃ (j : Nat) (dj : Array Int), v = .int .i64 (j : Int) ∧ k + 1 ≤ j ∧ j ≤ b ∧ dj.size = n ∧ Arr wr g off dj ∧ But1 g w wr ∧ shiftUp ltI b j dj = d4) (fun v _ => b - (intOf v).toNat)
                  case atStart => exact ⟨k + 1, d3, by go_num, Nat.le_refl _, by omega, hs3, HA3.out, HB2.out, by rw [HD4.out, if_pos h2]⟩
                  case round =>
                    obtain ⟨j, dj, rfl, hj, hjb, hsj, hA, hB, hS⟩ := hrel
                    clear HA3 HB2
                    obtain ⟨G, hG, hcw, hfw⟩ := hA.fam hsj
                    have HG := Lib.hid hG
                    have HS := Lib.hid hS
                    have HA := Lib.hid hA
                    have HB := Lib.hid hB
                    clear hG hS hA hB
                    by_cases h1 : j < b
                    · have h1z : (j : Int) < (b : Int) := by omega
                      go_wp2_with fail
                      go_big_quiet (first | (go_at_call 85; refine Calls.quiet_of_same (sLess _ _ _)))
                      go_wp2_with fail
                      · have hl : (!ltI (G j) (G (j - 1))) = true := by assumption
                        go_roundw
                        case rel =>
                          rw [Bool.not_eq_true', HG.out, HG.out] at hl
                          have e4 : d4 = dj := by rw [← HS.out, shU_stop (fun _ => hl)]
                          exact ⟨s, k, d4, rfl, by congr 1; omega, by omega, hak, hkb, hs4, by rw [e4]; exact HA.out.drewN _, HB.out.drewN _, HO3.out⟩
                        case measure => simp [intOf]; omega
                      · have hl : (!ltI (G j) (G (j - 1))) = false := by assumption
                        rw [Bool.not_eq_false'] at hl
                        go_region
                        go_wp2_with fail
                        go_roundw
                        case rel =>
                          refine ⟨j + 1, Go.Sort.swp dj j (j - 1), by go_num, by omega, by omega, by rw [Go.Sort.size_swp]; exact hsj, ?_, (HB.out.drewN _).swp _ _ _ _, ?_⟩
                          · rw [HG.out, HG.out]
                            exact (HA.out.drewN _).swp _ _ (by omega) (by omega)
                          · rw [← HS.out, shU_go h1 (by rw [← HG.out, ← HG.out]; exact hl)]
                        case measure => simp [intOf]; omega
                    · go_wp2_with fail
                      go_roundw
                      case rel =>
                        have e4 : d4 = dj := by rw [← HS.out, shU_stop (fun h => absurd h h1)]
                        exact ⟨s, k, d4, rfl, by congr 1; omega, by omega, hak, hkb, hs4, by rw [e4]; exact HA.out, HB.out, HO3.out⟩
                      case measure => simp [intOf]; omega
                · have h2z : ¬ (2 ≤ (b : Int) - (k : Int)) := by omega
                  go_wp2_with fail
                  go_roundw
                  case rel =>
                    have e4 : d4 = d3 := by rw [HD4.out, if_neg h2]
                    exact ⟨s, k, d4, rfl, by congr 1; omega, by omega, hak, hkb, hs4, by rw [e4]; exact HA3.out, HB2.out, HO3.out⟩
                  case measure => simp [intOf]; omega
          · have hyes : k < b ∧ ltI dk[k]! dk[k - 1]! = false := by
              rw [HG.out, HG.out] at hc
              simpa using hc
            have HY := Lib.hid hyes
            have hlt := hyes.1
            clear hyes hc
            go_wp2_with fail
            go_roundw
            case rel => exact ⟨k + 1, by go_num, by omega, by omega, HA.out, HB.out, by rw [← HS.out, scan_go HY.out.1 HY.out.2]⟩
            case measure => simp [intOf]; omega
end Go.Proofs.YtllpmepmgnnoaaaGreat
