/- The library's sort: the insertion sort that may give up. -/
import Derived.Test.YtiabbkjmgaemaaaGreatDB0
import Derived.Test.YtiabbkjmgaemaaaGreatDB1
import Derived.Test.YtiabbkjmgaemaaaGreatDB2
import Derived.Test.YtiabbkjmgaemaaaGreatDB3
import Derived.Deep.Cut
import Derived.Deep.CutRange
import Derived.BigQuiet
import Derived.Sort.LotB
import Derived.Test.YtiabbkjmgaemaaaGreatShelf
namespace Go.Proofs.YtiabbkjmgaemaaaGreat
set_option linter.unusedVariables false
open Go.RowKit
open Go.Sort (PermIn scanSorted shiftDown shiftUp partialIns)

theorem scan_go {b i : Nat} {d : Array Int} (h : i < b) (hl : ltI d[i]! d[i - 1]! = false) : scanSorted ltI d b i = scanSorted ltI d b (i + 1) := by
  rw [scanSorted.eq_1 ltI d b i, if_pos (by simp [h, hl])]
theorem scan_stop {b i : Nat} {d : Array Int} (h : i < b → ltI d[i]! d[i - 1]! = true) : scanSorted ltI d b i = i := by
  rw [scanSorted, if_neg]
  by_cases e : i < b
  · simp [h e]
  · simp [e]
theorem shD_stop {j : Nat} {d : Array Int} (h : 1 ≤ j → ltI d[j]! d[j - 1]! = false) : shiftDown ltI j d = d := by
  cases j with
  | zero => rw [shiftDown]
  | succ k =>
    have := h (by omega)
    rw [Nat.add_sub_cancel] at this
    rw [shiftDown, if_pos (by simp [this])]
theorem shD_go {j : Nat} {d : Array Int} (h : 1 ≤ j) (hl : ltI d[j]! d[j - 1]! = true) : shiftDown ltI j d = shiftDown ltI (j - 1) (Go.Sort.swp d j (j - 1)) := by
  cases j with
  | zero => omega
  | succ k =>
    rw [Nat.add_sub_cancel] at hl ⊢
    rw [shiftDown, if_neg (by simp [hl])]
theorem shU_stop {b j : Nat} {d : Array Int} (h : j < b → ltI d[j]! d[j - 1]! = false) : shiftUp ltI b j d = d := by
  rw [shiftUp]
  by_cases e : j < b
  · rw [if_pos e, if_pos (by simp [h e])]
  · rw [if_neg e]
theorem shU_go {b j : Nat} {d : Array Int} (h : j < b) (hl : ltI d[j]! d[j - 1]! = true) : shiftUp ltI b j d = shiftUp ltI b (j + 1) (Go.Sort.swp d j (j - 1)) := by
  rw [shiftUp.eq_1 ltI b j, if_pos h, if_neg (by simp [hl])]

theorem pi_true {a b s i k : Nat} {d : Array Int} (h : scanSorted ltI d b i = k) (hk : k = b) : partialIns ltI a b (s + 1) i d = (d, true) := by
  rw [partialIns]
  simp only [h]
  rw [if_pos hk]
theorem pi_false {a b s i k : Nat} {d : Array Int} (h : scanSorted ltI d b i = k) (hk : k ≠ b) (hl : b - a < 50) : partialIns ltI a b (s + 1) i d = (d, false) := by
  rw [partialIns]
  simp only [h]
  rw [if_neg hk, if_pos hl]
theorem pi_next {a b s i k : Nat} {d d3 d4 : Array Int} (h : scanSorted ltI d b i = k) (hk : k ≠ b) (hl : ¬ b - a < 50) (h3 : d3 = if k - a ≥ 2 then shiftDown ltI (k - 1) (Go.Sort.swp d k (k - 1)) else Go.Sort.swp d k (k - 1)) (h4 : d4 = if b - k ≥ 2 then shiftUp ltI b (k + 1) d3 else d3) :
    partialIns ltI a b (s + 1) i d = partialIns ltI a b s k d4 := by
  rw [partialIns]
  simp only [h]
  rw [if_neg hk, if_neg hl, ← h3, ← h4]
theorem shD_size (j : Nat) : ∀ d : Array Int, (shiftDown ltI j d).size = d.size := by
  induction j with
  | zero => intro d; rw [shiftDown]
  | succ j ih =>
    intro d
    rw [shiftDown]
    split
    · rfl
    · rw [ih, Go.Sort.size_swp]
theorem shU_size (b j : Nat) (d : Array Int) : (shiftUp ltI b j d).size = d.size := by
  induction hm : b - j using Nat.strongRecOn generalizing j d with
  | _ m ih =>
    rw [shiftUp]
    split
    · split
      · rfl
      · rw [ih (b - (j + 1)) (by omega) _ _ rfl, Go.Sort.size_swp]
    · rfl

set_option maxRecDepth 100000 in
set_option maxHeartbeats 8000000 in
theorem sPartial (g off cap a b n : Nat) (d : Array Int) (w : World) (h : Arr w g off d) (hn : d.size = n) (hab : a + 12 < b) (hb : b ≤ n) (hsz : n < 1152921504606846976) (hbl : Go.Sort.Below ltI a b d) :
    Calls Tryz.prog 143 #[.slice (some ⟨g, off, none⟩) n cap, .int .i64 a, .int .i64 b] w fun e w' =>
      ∃ (ok : Bool) (d' : Array Int), e = .returned (.bool ok) ∧ PermIn a b d d' ∧ (ok = true → Go.Sort.SortedIn ltI a b d') ∧ Arr w' g off d' ∧ But1 g w w' := by
  have hall := Go.Sort.partialInsertionSort_holds ltI_swo d a b (by omega) (by omega) hbl
  have FIN : ∀ (r : Array Int × Bool), r = Go.Sort.partialInsertionSort ltI d a b → ∀ w', Arr w' g off r.1 → But1 g w w' → ∃ (ok : Bool) (d' : Array Int), Ending.returned (.bool r.2) = .returned (.bool ok) ∧ PermIn a b d d' ∧ (ok = true → Go.Sort.SortedIn ltI a b d') ∧ Arr w' g off d' ∧ But1 g w w' := by
    rintro r rfl w' h1 h2
    exact ⟨_, _, rfl, hall.1, hall.2, h1, h2⟩
  have FIN := Lib.hid FIN
  have HA := Lib.hid h
  clear h hbl hall
  go_enter Tryz.func143, Tryz.ntmps143
  go_wp2_with fail
  go_loopw [7, 8] (fun v7 v8 wr => ∃ (s i : Nat) (dk : Array Int), v7 = .int .i64 (i : Int) ∧ v8 = .int .i64 (5 - (s : Int)) ∧ s ≤ 5 ∧ a < i ∧ i ≤ b ∧ dk.size = n ∧ Arr wr g off dk ∧ But1 g w wr ∧ partialIns ltI a b s i dk = Go.Sort.partialInsertionSort ltI d a b)
    (fun v7 v8 _ => (5 - intOf v8).toNat)
  case atStart => exact ⟨5, a + 1, d, by go_num, rfl, Nat.le_refl _, by omega, by omega, hn, HA.out, But1.refl _ _, rfl⟩
  case round =>
    obtain ⟨s, i, dk, rfl, rfl, hs, hai, hib, hsk, hA, hB, hO⟩ := hrel
    clear HA
    have HO := Lib.hid hO
    have HA := Lib.hid hA
    have HB := Lib.hid hB
    clear hO hA hB
    cases s with
    | zero =>
      go_wp2_with fail
      go_ret
      exact FIN.out (dk, false) (by rw [← HO.out, partialIns]) _ HA.out HB.out
    | succ s =>
      have es : (5 : Int) - ((s + 1 : Nat) : Int) < 5 := by omega
      go_wp2_with fail
      go_loopw [7] (fun v wr => ∃ i' : Nat, v = .int .i64 (i' : Int) ∧ a < i' ∧ i' ≤ b ∧ Arr wr g off dk ∧ But1 g w wr ∧ scanSorted ltI dk b i' = scanSorted ltI dk b i) (fun v _ => b - (intOf v).toNat)
      case atStart => exact ⟨i, rfl, hai, hib, HA.out, HB.out, rfl⟩
      case round =>
        obtain ⟨k, rfl, hak, hkb, hA, hB, hS⟩ := hrel
        clear HA HB
        obtain ⟨G, hG, hcw, hfw⟩ := hA.fam hsk
        have HG := Lib.hid hG
        have HS := Lib.hid hS
        have HA := Lib.hid hA
        have HB := Lib.hid hB
        clear hG hS hA hB
        go_upto_region 5 with fail
        go_cut [32] from 17 to 34 (fun t wx => t = .bool (decide (k < b) && !ltI (G k) (G (k - 1))) ∧ Arr wx g off dk ∧ But1 g w wx)
        case first =>
          by_cases hkl : k < b
          · have hklz : (k : Int) < (b : Int) := by omega
            go_big_quiet (first | (go_at_call 144; refine Calls.quiet_of_same (sLess _ _ _)))
            go_wp2_with fail
            go_meet
            case rel => exact ⟨by simp [hkl], HA.out.drewN _, HB.out.drewN _⟩
          · have hklz : decide ((k : Int) < (b : Int)) = false := decide_eq_false (by omega)
            go_big_quiet (first | (go_at_call 144; refine Calls.quiet_of_same (sLess _ _ _)))
            go_wp2_with fail
            go_meet
            case rel => exact ⟨by simp [hkl], HA.out.drewN _, HB.out.drewN _⟩
        case rest =>
          obtain ⟨rfl, hA, hB⟩ := hcut
          clear HA HB hcw hfw
          have HA := Lib.hid hA
          have HB := Lib.hid hB
          clear hA hB
          cases hc : (decide (k < b) && !ltI (G k) (G (k - 1)))
          · have hst : scanSorted ltI dk b i = k := by
              rw [← HS.out]
              refine scan_stop fun hlt => ?_
              rw [HG.out, HG.out] at hc
              simpa [hlt] using hc
            have HO2 := Lib.hid hst
            clear hst hc
            go_wp2_with fail
            · have hk : k = b := by
                have h : ((k : Int) == (b : Int)) = true := by assumption
                have := eq_of_beq h
                omega
              go_ret
              exact FIN.out (dk, true) (by rw [← HO.out, pi_true HO2.out hk]) _ HA.out HB.out
            · have hk : ¬ k = b := by
                have h : ((k : Int) == (b : Int)) = false := by assumption
                intro e
                rw [e] at h
                simp at h
              have hl : b - a < 50 := by omega
              go_ret
              exact FIN.out (dk, false) (by rw [← HO.out, pi_false HO2.out hk hl]) _ HA.out HB.out
            · have hk : ¬ k = b := by
                have h : ((k : Int) == (b : Int)) = false := by assumption
                intro e
                rw [e] at h
                simp at h
              have hl : ¬ b - a < 50 := by omega
              have hkb' : k < b := by omega
              clear HG HS
              obtain ⟨G, hG, hcw, hfw⟩ := HA.out.fam hsk
              have HG := Lib.hid hG
              clear hG

              go_region
              have hA2 : Arr (((wc.setCell ⟨g, off + k, none⟩ (.int .u32 (G (k - 1)))).setCell ⟨g, off + (k - 1), none⟩ (.int .u32 (G k))).drewN 1) g off (Go.Sort.swp dk k (k - 1)) := by
                rw [HG.out, HG.out]
                exact ((HA.out).swp _ _ (by omega) (by omega)).drewN 1
              have HA2 := Lib.hid hA2
              have HB2 := Lib.hid ((HB.out.swp (off + k) (off + (k - 1)) (.int .u32 (G (k - 1))) (.int .u32 (G k))).drewN 1)
              have hsk2 : (Go.Sort.swp dk k (k - 1)).size = n := by rw [Go.Sort.size_swp]; exact hsk
              obtain ⟨d2, hd2⟩ : ∃ d2, d2 = Go.Sort.swp dk k (k - 1) := ⟨_, rfl⟩
              obtain ⟨d3, hd3⟩ : ∃ d3, d3 = if k - a ≥ 2 then shiftDown ltI (k - 1) d2 else d2 := ⟨_, rfl⟩
              obtain ⟨d4, hd4⟩ : ∃ d4, d4 = if b - k ≥ 2 then shiftUp ltI b (k + 1) d3 else d3 := ⟨_, rfl⟩
              rw [← hd2] at hA2 hsk2
              have HO3 : Hid (partialIns ltI a b s k d4 = Go.Sort.partialInsertionSort ltI d a b) := Lib.hid (by rw [← HO.out]; exact (pi_next HO2.out hk hl (by rw [← hd2]; exact hd3) hd4).symm)
              have hs3 : d3.size = n := by rw [hd3]; split; · rw [shD_size]; exact hsk2
                                           · exact hsk2
              have hs4 : d4.size = n := by rw [hd4]; split; · rw [shU_size]; exact hs3
                                           · exact hs3
              have HA3 := Lib.hid hA2
              have HD3 := Lib.hid hd3
              have HD4 := Lib.hid hd4
              clear hA2 HA2 hcw hfw HA HB HO HO2 HG hd2 hd3 hd4 hsk
              go_upto_if 61 with fail
              go_cut [] from 13 to 132 (fun wx => Arr wx g off d3 ∧ But1 g w wx)
              case first =>
                by_cases h2 : k - a ≥ 2
                · have h2z : 2 ≤ (k : Int) - (a : Int) := by omega
                  go_wp2_with fail
                  go_loopw [9] (fun v wr => ∃ (j : Nat) (dj : Array Int), v = .int .i64 (j : Int) ∧ j ≤ k - 1 ∧ dj.size = n ∧ Arr wr g off dj ∧ But1 g w wr ∧ shiftDown ltI j dj = d3) (fun v _ => (intOf v).toNat)
                  case atStart => exact ⟨k - 1, d2, by congr 1; omega, Nat.le_refl _, hsk2, HA3.out, HB2.out, by rw [HD3.out, if_pos h2]⟩
                  case round =>
                    obtain ⟨j, dj, rfl, hj, hsj, hA, hB, hS⟩ := hrel
                    clear HA3 HB2
                    obtain ⟨G, hG, hcw, hfw⟩ := hA.fam hsj
                    have HG := Lib.hid hG
                    have HS := Lib.hid hS
                    have HA := Lib.hid hA
                    have HB := Lib.hid hB
                    clear hG hS hA hB
                    by_cases h1 : 1 ≤ j
                    · have h1z : (1 : Int) ≤ (j : Int) := by omega
                      go_wp2_with fail
                      go_big_quiet (first | (go_at_call 144; refine Calls.quiet_of_same (sLess _ _ _)))
                      go_wp2_with fail
                      · have hl : (!ltI (G j) (G (j - 1))) = true := by assumption
                        go_meet
                        case rel =>
                          rw [Bool.not_eq_true', HG.out, HG.out] at hl
                          rw [← HS.out, shD_stop (fun _ => hl)]
                          exact ⟨HA.out.drewN _, HB.out.drewN _⟩
                      · have hl : (!ltI (G j) (G (j - 1))) = false := by assumption
                        rw [Bool.not_eq_false'] at hl
                        go_region
                        go_wp2_with fail
                        go_roundw
                        case rel =>
                          refine ⟨j - 1, Go.Sort.swp dj j (j - 1), by congr 1; omega, by omega, by rw [Go.Sort.size_swp]; exact hsj, ?_, (HB.out.drewN _).swp _ _ _ _, ?_⟩
                          · rw [HG.out, HG.out]
                            exact (HA.out.drewN _).swp _ _ (by omega) (by omega)
                          · rw [← HS.out, shD_go h1 (by rw [← HG.out, ← HG.out]; exact hl)]
                        case measure => simp [intOf]; omega
                    · go_wp2_with fail
                      go_meet
                      case rel =>
                        rw [← HS.out, shD_stop (fun h => absurd h h1)]
                        exact ⟨HA.out, HB.out⟩
                · have h2z : ¬ (2 ≤ (k : Int) - (a : Int)) := by omega
                  go_wp2_with fail
                  go_meet
                  case rel => exact ⟨by rw [HD3.out, if_neg h2]; exact HA3.out, HB2.out⟩
              case rest =>
                obtain ⟨hA, hB⟩ := hcut
                clear HA3 HB2
                have HA3 := Lib.hid hA
                have HB2 := Lib.hid hB
                clear hA hB
                by_cases h2 : b - k ≥ 2
                · have h2z : 2 ≤ (b : Int) - (k : Int) := by omega
                  go_wp2_with fail
                  go_loopw [10] (fun v wr => ∃ (j : Nat) (dj : Array Int), v = .int .i64 (j : Int) ∧ k + 1 ≤ j ∧ j ≤ b ∧ dj.size = n ∧ Arr wr g off dj ∧ But1 g w wr ∧ shiftUp ltI b j dj = d4) (fun v _ => b - (intOf v).toNat)
                  case atStart => exact ⟨k + 1, d3, by go_num, Nat.le_refl _, by omega, hs3, HA3.out, HB2.out, by rw [HD4.out, if_pos h2]⟩
                  case round =>
                    obtain ⟨j, dj, rfl, hj, hjb, hsj, hA, hB, hS⟩ := hrel
                    clear HA3 HB2
                    obtain ⟨G, hG, hcw, hfw⟩ := hA.fam hsj
                    have HG := Lib.hid hG
                    have HS := Lib.hid hS
                    have HA := Lib.hid hA
                    have HB := Lib.hid hB
                    clear hG hS hA hB
                    by_cases h1 : j < b
                    · have h1z : (j : Int) < (b : Int) := by omega
                      go_wp2_with fail
                      go_big_quiet (first | (go_at_call 144; refine Calls.quiet_of_same (sLess _ _ _)))
                      go_wp2_with fail
                      · have hl : (!ltI (G j) (G (j - 1))) = true := by assumption
                        go_roundw
                        case rel =>
                          rw [Bool.not_eq_true', HG.out, HG.out] at hl
                          have e4 : d4 = dj := by rw [← HS.out, shU_stop (fun _ => hl)]
                          exact ⟨s, k, d4, rfl, by congr 1; omega, by omega, hak, hkb, hs4, by rw [e4]; exact HA.out.drewN _, HB.out.drewN _, HO3.out⟩
                        case measure => simp [intOf]; omega
                      · have hl : (!ltI (G j) (G (j - 1))) = false := by assumption
                        rw [Bool.not_eq_false'] at hl
                        go_region
                        go_wp2_with fail
                        go_roundw
                        case rel =>
                          refine ⟨j + 1, Go.Sort.swp dj j (j - 1), by go_num, by omega, by omega, by rw [Go.Sort.size_swp]; exact hsj, ?_, (HB.out.drewN _).swp _ _ _ _, ?_⟩
                          · rw [HG.out, HG.out]
                            exact (HA.out.drewN _).swp _ _ (by omega) (by omega)
                          · rw [← HS.out, shU_go h1 (by rw [← HG.out, ← HG.out]; exact hl)]
                        case measure => simp [intOf]; omega
                    · go_wp2_with fail
                      go_roundw
                      case rel =>
                        have e4 : d4 = dj := by rw [← HS.out, shU_stop (fun h => absurd h h1)]
                        exact ⟨s, k, d4, rfl, by congr 1; omega, by omega, hak, hkb, hs4, by rw [e4]; exact HA.out, HB.out, HO3.out⟩
                      case measure => simp [intOf]; omega
                · have h2z : ¬ (2 ≤ (b : Int) - (k : Int)) := by omega
                  go_wp2_with fail
                  go_roundw
                  case rel =>
                    have e4 : d4 = d3 := by rw [HD4.out, if_neg h2]
                    exact ⟨s, k, d4, rfl, by congr 1; omega, by omega, hak, hkb, hs4, by rw [e4]; exact HA3.out, HB2.out, HO3.out⟩
                  case measure => simp [intOf]; omega
          · have hyes : k < b ∧ ltI dk[k]! dk[k - 1]! = false := by
              rw [HG.out, HG.out] at hc
              simpa using hc
            have HY := Lib.hid hyes
            have hlt := hyes.1
            clear hyes hc
            go_wp2_with fail
            go_roundw
            case rel => exact ⟨k + 1, by go_num, by omega, by omega, HA.out, HB.out, by rw [← HS.out, scan_go HY.out.1 HY.out.2]⟩
            case measure => simp [intOf]; omega
end Go.Proofs.YtiabbkjmgaemaaaGreat
/- What each step of the library's sort leaves to be sorted: plain. -/
namespace Go.Proofs.YtiabbkjmgaemaaaGreat
set_option linter.unusedVariables false
open Go.Sort (PermIn permIn_all permIn_trans permIn_mono permIn_refl)

/-- Rising from a to b. -/
def Srt (a b : Nat) (d : Array Int) : Prop := ∀ i j, a ≤ i → i < j → j < b → d[i]! ≤ d[j]!
theorem srt_iff {a b : Nat} {d : Array Int} : Srt a b d ↔ Go.Sort.SortedIn ltI a b d := by
  constructor
  · intro h i j h1 h2 h3
    have := h i j h1 h2 h3
    simp [Go.Sort.ltInt]; omega
  · intro h i j h1 h2 h3
    have := h i j h1 h2 h3
    simp [Go.Sort.ltInt] at this; omega
/-- Nothing is less than what lies ahead. -/
def Blw (a b : Nat) (d : Array Int) : Prop := a = 0 ∨ ∀ i, a ≤ i → i < b → d[a - 1]! ≤ d[i]!
theorem blw_iff {a b : Nat} {d : Array Int} : Blw a b d ↔ Go.Sort.Below ltI a b d := by
  constructor
  · rintro (h | h)
    · exact .inl h
    · refine .inr fun i h1 h2 => ?_
      have := h i h1 h2
      simp [Go.Sort.ltInt]; omega
  · rintro (h | h)
    · exact .inl h
    · refine .inr fun i h1 h2 => ?_
      have := h i h1 h2
      simp [Go.Sort.ltInt] at this; omega
theorem Blw.perm {a b : Nat} {d d' : Array Int} (h : Blw a b d) (hb : b ≤ d.size) (hp : PermIn a b d d') : Blw a b d' := by
  rcases h with h | h
  · exact .inl h
  · by_cases ha : a = 0
    · exact .inl ha
    · refine .inr ?_
      rw [hp.2.1 (a - 1) (.inl (by omega))]
      exact permIn_all d d' a b (fun x => d[a - 1]! ≤ x) hb hp h
theorem Blw.mono {a b b' : Nat} {d : Array Int} (h : Blw a b d) (hb : b' ≤ b) : Blw a b' d := h.imp id fun h i h1 h2 => h i h1 (by omega)

/-- What is left to do, and what comes of it. -/
def Left (a b a' b' : Nat) (d dk : Array Int) : Prop := Blw a' b' dk ∧ ∀ d'', PermIn a' b' dk d'' → Srt a' b' d'' → PermIn a b d d'' ∧ Srt a b d''
theorem left_trans {a b a1 b1 a2 b2 : Nat} {d d1 d2 : Array Int} (h : Left a b a1 b1 d d1) (k : Left a1 b1 a2 b2 d1 d2) : Left a b a2 b2 d d2 :=
  ⟨k.1, fun d'' h1 h2 => let r := k.2 d'' h1 h2; h.2 d'' r.1 r.2⟩
theorem left_perm {a b a1 b1 : Nat} {d d1 d2 : Array Int} (h : Left a b a1 b1 d d1) (hb : b1 ≤ d1.size) (hp : PermIn a1 b1 d1 d2) : Left a b a1 b1 d d2 :=
  ⟨h.1.perm hb hp, fun d'' h1 h2 => h.2 d'' (permIn_trans _ _ _ _ _ hp h1) h2⟩

theorem step_eq {a b mid : Nat} {d3 d4 : Array Int} {p : Int} (hE : EqPost a b d3 d4 p mid) (hs : b ≤ d3.size) (hlow : ∀ i, a ≤ i → i < b → p ≤ d3[i]!) : Left a b mid b d3 d4 := by
  obtain ⟨h1, h2, hp, h3, h4⟩ := hE
  have hs4 : d4.size = d3.size := hp.1
  have hlow4 : ∀ i, a ≤ i → i < b → p ≤ d4[i]! := permIn_all d3 d4 a b (fun x => p ≤ x) hs hp hlow
  refine ⟨.inr fun i i1 i2 => ?_, fun d'' hp2 hsrt => ⟨permIn_trans _ _ _ _ _ hp (permIn_mono d4 d'' mid b a b (by omega) (Nat.le_refl _) (by omega) hp2), fun i j i1 i2 i3 => ?_⟩⟩
  · have := h3 (mid - 1) (by omega) (by omega)
    have := h4 i i1 i2
    omega
  · have hhi : ∀ t, mid ≤ t → t < b → p < d''[t]! := permIn_all d4 d'' mid b (fun x => p < x) (by omega) hp2 h4
    by_cases e1 : mid ≤ i
    · exact hsrt i j e1 i2 i3
    · rw [hp2.2.1 i (.inl (by omega))]
      have := h3 i i1 (by omega)
      by_cases e2 : mid ≤ j
      · have := hhi j e2 i3
        omega
      · rw [hp2.2.1 j (.inl (by omega))]
        have := hlow4 j (by omega) i3
        omega

theorem step_left {a b mid : Nat} {d3 d4 d5 : Array Int} (hP : PartPost a b d3 d4 mid) (hs : b ≤ d3.size) (hp5 : PermIn a mid d4 d5) (hs5 : Srt a mid d5) : Left a b (mid + 1) b d3 d5 := by
  obtain ⟨h1, h2, hp, h3, h4⟩ := hP
  have hs4 : d4.size = d3.size := hp.1
  have hs5' : d5.size = d4.size := hp5.1
  have hm : d5[mid]! = d4[mid]! := hp5.2.1 mid (.inr (Nat.le_refl _))
  have hlo : ∀ t, a ≤ t → t < mid → d5[t]! < d4[mid]! := permIn_all d4 d5 a mid (fun x => x < d4[mid]!) (by omega) hp5 h3
  have hhi : ∀ t, mid < t → t < b → d4[mid]! ≤ d5[t]! := fun t t1 t2 => by rw [hp5.2.1 t (.inr (by omega))]; exact h4 t t1 t2
  refine ⟨.inr fun i i1 i2 => ?_, fun d'' hp2 hsrt => ⟨?_, fun i j i1 i2 i3 => ?_⟩⟩
  · rw [Nat.add_sub_cancel, hm]
    exact hhi i (by omega) i2
  · exact permIn_trans _ _ _ _ _ hp (permIn_trans _ _ _ _ _ (permIn_mono d4 d5 a mid a b (Nat.le_refl _) (by omega) (by omega) hp5) (permIn_mono d5 d'' (mid + 1) b a b (by omega) (Nat.le_refl _) (by omega) hp2))
  · have hhi2 : ∀ t, mid + 1 ≤ t → t < b → d4[mid]! ≤ d''[t]! := permIn_all d5 d'' (mid + 1) b (fun x => d4[mid]! ≤ x) (by omega) hp2 (fun t t1 t2 => hhi t (by omega) t2)
    by_cases e1 : mid + 1 ≤ i
    · exact hsrt i j e1 i2 i3
    · rw [hp2.2.1 i (.inl (by omega))]
      by_cases e2 : mid + 1 ≤ j
      · have := hhi2 j e2 i3
        by_cases e3 : i = mid
        · rw [e3, hm]; exact this
        · have := hlo i i1 (by omega)
          omega
      · rw [hp2.2.1 j (.inl (by omega))]
        by_cases e3 : j = mid
        · rw [e3, hm]
          have := hlo i i1 (by omega)
          omega
        · exact hs5 i j i1 i2 (by omega)

theorem step_right {a b mid : Nat} {d3 d4 d5 : Array Int} (hP : PartPost a b d3 d4 mid) (hs : b ≤ d3.size) (hB : Blw a b d3) (hp5 : PermIn (mid + 1) b d4 d5) (hs5 : Srt (mid + 1) b d5) : Left a b a mid d3 d5 := by
  have hB4 : Blw a b d4 := hB.perm hs hP.2.2.1
  obtain ⟨h1, h2, hp, h3, h4⟩ := hP
  have hs4 : d4.size = d3.size := hp.1
  have hs5' : d5.size = d4.size := hp5.1
  have hm : d5[mid]! = d4[mid]! := hp5.2.1 mid (.inl (by omega))
  have hhi : ∀ t, mid + 1 ≤ t → t < b → d4[mid]! ≤ d5[t]! := permIn_all d4 d5 (mid + 1) b (fun x => d4[mid]! ≤ x) (by omega) hp5 (fun t t1 t2 => h4 t (by omega) t2)
  have hlo : ∀ t, a ≤ t → t < mid → d5[t]! < d4[mid]! := fun t t1 t2 => by rw [hp5.2.1 t (.inl (by omega))]; exact h3 t t1 t2
  refine ⟨?_, fun d'' hp2 hsrt => ⟨?_, fun i j i1 i2 i3 => ?_⟩⟩
  · rcases hB4 with e | e
    · exact .inl e
    · by_cases ha : a = 0
      · exact .inl ha
      · refine .inr fun i i1 i2 => ?_
        rw [hp5.2.1 (a - 1) (.inl (by omega)), hp5.2.1 i (.inl (by omega))]
        exact e i i1 (by omega)
  · exact permIn_trans _ _ _ _ _ hp (permIn_trans _ _ _ _ _ (permIn_mono d4 d5 (mid + 1) b a b (by omega) (Nat.le_refl _) (by omega) hp5) (permIn_mono d5 d'' a mid a b (Nat.le_refl _) (by omega) (by omega) hp2))
  · have hlo2 : ∀ t, a ≤ t → t < mid → d''[t]! < d4[mid]! := permIn_all d5 d'' a mid (fun x => x < d4[mid]!) (by omega) hp2 hlo
    by_cases e1 : j < mid
    · exact hsrt i j i1 i2 e1
    · rw [hp2.2.1 j (.inr (by omega))]
      by_cases e2 : i < mid
      · have := hlo2 i i1 e2
        by_cases e3 : j = mid
        · rw [e3, hm]; omega
        · have := hhi j (by omega) i3
          omega
      · rw [hp2.2.1 i (.inr (by omega))]
        by_cases e3 : i = mid
        · rw [e3, hm]; exact hhi j (by omega) i3
        · exact hs5 i j (by omega) i2 i3
theorem left_done {a b a' b' : Nat} {d dk d'' : Array Int} (h : Left a b a' b' d dk) (h1 : PermIn a' b' dk d'') (h2 : Go.Sort.SortedIn ltI a' b' d'') : PermIn a b d d'' ∧ Srt a b d'' := h.2 d'' h1 (srt_iff.2 h2)
theorem left_start {a b : Nat} {d : Array Int} (h : Blw a b d) : Left a b a b d d := ⟨h, fun _ h1 h2 => ⟨h1, h2⟩⟩
end Go.Proofs.YtiabbkjmgaemaaaGreat
/- The library's sort: pattern-defeating quicksort. -/
namespace Go.Proofs.YtiabbkjmgaemaaaGreat
set_option linter.unusedVariables false
open Go.RowKit
open Go.Sort (PermIn permIn_refl)

set_option maxRecDepth 1000000 in
set_option maxHeartbeats 8000000 in
theorem sPdq : ∀ (N g off cap a b lim n : Nat) (d : Array Int) (w : World), b - a < N → Arr w g off d → d.size = n → a ≤ b → b ≤ n → n < 1152921504606846976 → lim < 1152921504606846976 → Blw a b d →
    Calls Tryz.prog 118 #[.slice (some ⟨g, off, none⟩) n cap, .int .i64 a, .int .i64 b, .int .i64 lim] w fun e w' =>
      e = .returned (.tuple #[]) ∧ ∃ d', (PermIn a b d d' ∧ Srt a b d') ∧ Arr w' g off d' ∧ But1 g w w' := by
  intro N
  induction N with
  | zero => intro _ _ _ _ _ _ _ _ _ h; exact absurd h (Nat.not_lt_zero _)
  | succ N ih =>
    intro g off cap a b lim n d w hN h hn hab hb hsz hlim hbl
    have HA := Lib.hid h
    have HL := Lib.hid (left_start hbl)
    have IH := Lib.hid ih
    clear h hbl ih
    go_enter Tryz.func118, Tryz.ntmps118
    go_wp2_with fail
    go_loopg [1, 2, 3, 8, 9] (b - a) (fun k s1 s2 s3 s8 s9 wr => ∃ (a' b' lim' : Nat) (wb wp : Bool) (dk : Array Int), s1 = .int .i64 a' ∧ s2 = .int .i64 b' ∧ s3 = .int .i64 lim' ∧ s8 = .bool wb ∧ s9 = .bool wp ∧
      a' ≤ b' ∧ b' ≤ n ∧ b' - a' ≤ k ∧ k ≤ b - a ∧ lim' ≤ lim ∧ dk.size = n ∧ Left a b a' b' d dk ∧ Arr wr g off dk ∧ But1 g w wr)
    case atStart => exact ⟨a, b, lim, true, true, d, rfl, rfl, rfl, rfl, rfl, hab, hb, Nat.le_refl _, Nat.le_refl _, Nat.le_refl _, hn, HL.out, HA.out, But1.refl _ _⟩
    case round =>
      obtain ⟨a', b', lim', wb, wp, dk, rfl, rfl, rfl, rfl, rfl, hab', hb', hk, hkN, hl', hsk, hLF, hA, hB⟩ := hrel
      clear HA HL
      have HL := Lib.hid hLF
      have HA := Lib.hid hA
      have HB := Lib.hid hB
      clear hLF hA hB
      by_cases h12 : b' - a' ≤ 12
      · have h12z : (b' : Int) - (a' : Int) ≤ 12 := by omega
        go_wp2_with fail
        refine (sIns g off cap a' b' n dk _ HA.out hsk hab' hb' (by omega)).mono ?_
        rintro e w1 ⟨rfl, hA1, hB1⟩
        have HA1 := Lib.hid hA1
        have HB1 := Lib.hid (HB.out.trans hB1)
        clear hA1 hB1
        go_wp2_with fail
        (try simp only [Exit.inBlock, Exit.then]); refine bodyPost_ret (results_none rfl _ _ _) rfl ?_
        have hi := Go.Sort.insertionSort_holds ltI_swo dk a' b' hab' (by omega)
        exact ⟨rfl, _, left_done HL.out hi.1 hi.2, HA1.out, HB1.out⟩
      · have h12z : ¬ ((b' : Int) - (a' : Int) ≤ 12) := by omega
        by_cases hl0 : lim' = 0
        · subst hl0
          go_wp2_with fail
          refine (sHeap g off cap a' b' n dk _ HA.out hsk hab' hb' hsz).mono ?_
          rintro e w1 ⟨rfl, hA1, hB1⟩
          have HA1 := Lib.hid hA1
          have HB1 := Lib.hid (HB.out.trans hB1)
          clear hA1 hB1
          go_wp2_with fail
          (try simp only [Exit.inBlock, Exit.then]); refine bodyPost_ret (results_none rfl _ _ _) rfl ?_
          have hi := Go.Sort.heapSort_holds ltI_swo dk a' b' hab' (by omega)
          exact ⟨rfl, _, left_done HL.out hi.1 hi.2, HA1.out, HB1.out⟩
        · have hl0z : ¬ ((lim' : Int) = 0) := by omega
          go_upto_if 35 with fail
          go_cut [3] from 19 to 133 (fun s3 wc => ∃ (l1 : Nat) (d1 : Array Int), s3 = .int .i64 l1 ∧ l1 ≤ lim ∧ d1.size = n ∧ Left a b a' b' d d1 ∧ Arr wc g off d1 ∧ But1 g w wc)
          case first =>
            cases wb
            · go_wp2_with fail
              refine (sBrk g off cap a' b' n dk _ HA.out hsk (by omega) hb' hsz).mono ?_
              rintro e w1 ⟨rfl, d1, hp1, hA1, hB1⟩
              have HX := Lib.hid (⟨lim' - 1, d1, by congr 1; omega, by omega, hp1.1.trans hsk, left_perm HL.out (by omega) hp1, hA1, HB.out.trans hB1⟩ : ∃ (l1 : Nat) (d1 : Array Int), Value.int .i64 ((lim' : Int) - 1) = .int .i64 l1 ∧ l1 ≤ lim ∧ d1.size = n ∧ Left a b a' b' d d1 ∧ Arr w1 g off d1 ∧ But1 g w w1)
              clear hp1 hA1 hB1
              go_wp2_with fail
              go_meet
              case rel => exact HX.out
            · go_wp2_with fail
              go_meet
              case rel => exact ⟨lim', dk, rfl, hl', hsk, HL.out, HA.out, HB.out⟩
          case rest =>
            obtain ⟨l1, d1, rfl, hl1, hs1, hLF, hA, hB⟩ := hcut
            clear HL HA HB
            have HL := Lib.hid hLF
            have HA := Lib.hid hA
            have HB := Lib.hid hB
            clear hLF hA hB
            go_upto_if 50 with (go_at_call 141; refine (sPiv g off cap a' b' n d1 _ HA.out hs1 (by omega) hb' hsz).mono ?_; rintro e w2 ⟨x, hint, rfl, hx, hb2⟩; have HB2 := Lib.hid hb2; clear hb2)
            have HA2 := Lib.hid (HA.out.below HB2.out HA.out.lt)
            have HB3 := Lib.hid (HB.out.trans (But1.of_below HB2.out))
            clear HA HB HB2
            go_cut [11, 12] from 19 to 133 (fun s11 s12 wc => ∃ (x : Nat) (hint : Int) (d2 : Array Int), s11 = .int .i64 x ∧ s12 = .int .i64 hint ∧ (a' ≤ x ∧ x < b') ∧ d2.size = n ∧ Left a b a' b' d d2 ∧ Arr wc g off d2 ∧ But1 g w wc)
            case first =>
              by_cases hh : hint = 2
              · subst hh
                go_wp2_with fail
                refine (sRev g off cap a' b' n d1 _ HA2.out hs1 hab' hb' hsz).mono ?_
                rintro e w3 ⟨rfl, d2, hp2, hA1, hB1⟩
                have HX := Lib.hid (⟨b' - 1 - (x - a'), 1, d2, by congr 1; omega, rfl, by omega, hp2.1.trans hs1, left_perm HL.out (by omega) hp2, hA1, HB3.out.trans hB1⟩ : ∃ (x' : Nat) (hint : Int) (d2 : Array Int), Value.int .i64 ((b' : Int) - 1 - ((x : Int) - (a' : Int))) = .int .i64 x' ∧ Value.int .i64 1 = .int .i64 hint ∧ (a' ≤ x' ∧ x' < b') ∧ d2.size = n ∧ Left a b a' b' d d2 ∧ Arr w3 g off d2 ∧ But1 g w w3)
                clear hp2 hA1 hB1
                go_wp2_with fail
                go_meet
                case rel => exact HX.out
              · have hhb : (hint == (2 : Int)) = false := by simp [hh]
                have HH := Lib.hid hh
                clear hh
                go_wp2_with fail
                go_meet
                case rel => exact ⟨x, hint, d1, rfl, rfl, hx, hs1, HL.out, HA2.out, HB3.out⟩
            case rest =>
              obtain ⟨x, hint, d2, rfl, rfl, hx, hs2, hLF, hA, hB⟩ := hcut
              clear HL HA2 HB3
              have HL := Lib.hid hLF
              have HA := Lib.hid hA
              have HB := Lib.hid hB
              clear hLF hA hB
              go_upto_region 15 with fail
              go_cut [12, 68] from 19 to 133 (fun s12 s68 wx => s12 = .int .i64 hint ∧ (∃ c : Bool, s68 = .bool c) ∧ wx = wc)
              case first =>
                cases wb <;> cases wp <;> (go_wp2_with fail; go_meet; exact ⟨rfl, ⟨_, rfl⟩, rfl⟩)
              case rest =>
                obtain ⟨rfl, ⟨c, rfl⟩, rfl⟩ := hcut
                go_upto_if 68 with fail
                go_cut [] from 19 to 133 (fun wx => ∃ d3 : Array Int, d3.size = n ∧ Left a b a' b' d d3 ∧ Arr wx g off d3 ∧ But1 g w wx)
                case first =>
                  cases c
                  · go_wp2_with fail
                    go_meet
                    case rel => exact ⟨d2, hs2, HL.out, HA.out, HB.out⟩
                  · go_wp2_with fail
                    refine (sPartial g off cap a' b' n d2 _ HA.out hs2 (by omega) hb' hsz (blw_iff.1 HL.out.1)).mono ?_
                    rintro e w3 ⟨ok, d3, rfl, hp3, hsrt, hA1, hB1⟩
                    have HX := Lib.hid (⟨d3, hp3.1.trans hs2, left_perm HL.out (by omega) hp3, hA1, HB.out.trans hB1⟩ : ∃ d3 : Array Int, d3.size = n ∧ Left a b a' b' d d3 ∧ Arr w3 g off d3 ∧ But1 g w w3)
                    have HY : Hid (ok = true → ∃ d', (PermIn a b d d' ∧ Srt a b d') ∧ Arr w3 g off d' ∧ But1 g w w3) := Lib.hid (fun e => ⟨d3, left_done HL.out hp3 (hsrt e), hA1, HB.out.trans hB1⟩)
                    clear hp3 hsrt hA1 hB1
                    cases ok
                    · go_wp2_with fail
                      go_meet
                      case rel => exact HX.out
                    · go_wp2_with fail
                      (try simp only [Exit.inBlock, Exit.then]); refine bodyPost_ret (results_none rfl _ _ _) rfl ?_
                      exact ⟨rfl, HY.out (by first | rfl | trivial)⟩
                case rest =>
                  obtain ⟨d3, hs3, hLF, hA, hB⟩ := hcut
                  clear HL HA HB
                  obtain ⟨G, hG, hcw, hfw⟩ := hA.fam hs3
                  have HG := Lib.hid hG
                  have HL := Lib.hid hLF
                  have HA := Lib.hid hA
                  have HB := Lib.hid hB
                  clear hG hLF hA hB
                  go_upto_region 17 with fail
                  go_cut [87] from 19 to 133 (fun s87 wx => s87 = .bool (decide (a' > 0) && !ltI (G (a' - 1)) (G x)) ∧ Arr wx g off d3 ∧ But1 g w wx)
                  case first =>
                    rcases Nat.eq_zero_or_pos a' with ha0 | ha0
                    · have ha0z : decide ((a' : Int) > 0) = false := decide_eq_false (by omega)
                      go_big_quiet (first | (go_at_call 144; refine Calls.quiet_of_same (sLess _ _ _)))
                      go_wp2_with fail
                      go_meet
                      case rel => exact ⟨by simp [ha0], HA.out.drewN _, HB.out.drewN _⟩
                    · have ha0z : (a' : Int) > 0 := by omega
                      go_big_quiet (first | (go_at_call 144; refine Calls.quiet_of_same (sLess _ _ _)))
                      go_wp2_with fail
                      go_meet
                      case rel => exact ⟨by simp [ha0], HA.out.drewN _, HB.out.drewN _⟩
                  case rest =>
                    obtain ⟨rfl, hA, hB⟩ := hcut
                    clear HA HB hcw hfw
                    have HA := Lib.hid hA
                    have HB := Lib.hid hB
                    clear hA hB
                    cases h87 : (decide (a' > 0) && !ltI (G (a' - 1)) (G x))
                    · clear h87
                      go_upto_if 113 with (go_at_call 146; refine (sPart g off cap a' b' x n d3 _ HA.out hs3 hx.1 hx.2 hb' hsz).mono ?_; rintro e w7 ⟨mid, ap, d4, rfl, hP, hA1, hB1⟩; have m1 := hP.1; have m2 := hP.2.1; have HA1 := Lib.hid hA1; have HB1 := Lib.hid (HB.out.trans hB1); have HP := Lib.hid hP; clear hA1 hB1 hP)
                      have hs4 : d4.size = n := HP.out.2.2.1.1.trans hs3
                      have B4 : Blw a' b' d4 := HL.out.1.perm (by omega) HP.out.2.2.1
                      by_cases h4 : mid - a' < b' - mid
                      · have h4z : (mid : Int) - (a' : Int) < (b' : Int) - (mid : Int) := by omega
                        have BL := Lib.hid (B4.mono (show mid ≤ b' by omega))
                        clear B4
                        go_wp2_with fail
                        refine (IH.out g off cap a' mid l1 n d4 _ (by omega) HA1.out hs4 m1 (by omega) hsz (by omega) BL.out).mono ?_
                        rintro e w8 ⟨rfl, d5, ⟨p5, s5⟩, hA2, hB2⟩
                        have HL5 := Lib.hid (left_trans HL.out (step_left HP.out (by omega) p5 s5))
                        have HA5 := Lib.hid hA2
                        have HB5 := Lib.hid (HB1.out.trans hB2)
                        have hs5 : d5.size = n := p5.1.trans hs4
                        clear p5 s5 hA2 hB2
                        go_wp2_with fail
                        go_roundg (b' - (mid + 1))
                        case measure => omega
                        case rel =>
                          have q1 : mid + 1 ≤ b' := by omega
                          have q2 : b' - (mid + 1) ≤ b - a := by omega
                          exact ⟨mid + 1, b', l1, _, ap, d5, by simp, rfl, rfl, rfl, rfl, q1, hb', Nat.le_refl _, q2, hl1, hs5, HL5.out, HA5.out, HB5.out⟩
                      · have h4z : ¬ ((mid : Int) - (a' : Int) < (b' : Int) - (mid : Int)) := by omega
                        have BR : Hid (Blw (mid + 1) b' d4) := Lib.hid (.inr fun i i1 i2 => by rw [Nat.add_sub_cancel]; exact HP.out.2.2.2.2 i (by omega) i2)
                        clear B4
                        go_wp2_with fail
                        refine (IH.out g off cap (mid + 1) b' l1 n d4 _ (by omega) HA1.out hs4 (by omega) hb' hsz (by omega) BR.out).mono ?_
                        rintro e w8 ⟨rfl, d5, ⟨p5, s5⟩, hA2, hB2⟩
                        have HL5 := Lib.hid (left_trans HL.out (step_right HP.out (by omega) HL.out.1 p5 s5))
                        have HA5 := Lib.hid hA2
                        have HB5 := Lib.hid (HB1.out.trans hB2)
                        have hs5 : d5.size = n := p5.1.trans hs4
                        clear p5 s5 hA2 hB2
                        go_wp2_with fail
                        go_roundg (mid - a')
                        case measure => omega
                        case rel =>
                          have q1 : mid ≤ n := by omega
                          have q2 : mid - a' ≤ b - a := by omega
                          exact ⟨a', mid, l1, _, ap, d5, rfl, rfl, rfl, rfl, rfl, m1, q1, Nat.le_refl _, q2, hl1, hs5, HL5.out, HA5.out, HB5.out⟩
                    · have h87' : 0 < a' ∧ d3[x]! ≤ d3[a' - 1]! := by
                        simp only [Bool.and_eq_true, decide_eq_true_eq, Bool.not_eq_true', HG.out] at h87
                        refine ⟨h87.1, ?_⟩
                        have := h87.2
                        simp [Go.Sort.ltInt] at this
                        omega
                      have hlow : ∀ i, a' ≤ i → i < b' → d3[x]! ≤ d3[i]! := fun i i1 i2 => by
                        rcases HL.out.1 with e | e
                        · omega
                        · have := e i i1 i2
                          omega
                      have HW := Lib.hid hlow
                      clear h87 hlow h87'
                      go_wp2_with fail
                      refine (sEq g off cap a' b' x n d3 _ HA.out hs3 hx.1 hx.2 hb' hsz).mono ?_
                      rintro e w7 ⟨mid, d4, rfl, hE, hA1, hB1⟩
                      have m1 := hE.1
                      have m2 := hE.2.1
                      have HL4 := Lib.hid (left_trans HL.out (step_eq hE (by omega) HW.out))
                      have HA4 := Lib.hid hA1
                      have HB4 := Lib.hid (HB.out.trans hB1)
                      have hs4 : d4.size = n := hE.2.2.1.1.trans hs3
                      clear hE hA1 hB1
                      go_wp2_with fail
                      go_roundg (b' - mid)
                      case measure => omega
                      case rel =>
                        have q2 : b' - mid ≤ b - a := by omega
                        exact ⟨mid, b', l1, wb, wp, d4, rfl, rfl, rfl, rfl, rfl, m2, hb', Nat.le_refl _, q2, hl1, hs4, HL4.out, HA4.out, HB4.out⟩
end Go.Proofs.YtiabbkjmgaemaaaGreat
/- The library's sort of a slice. -/
namespace Go.Proofs.YtiabbkjmgaemaaaGreat
set_option linter.unusedVariables false
open Go.RowKit
open Go.Sort (PermIn)

set_option maxHeartbeats 1000000 in
/-- .. of none. -/
theorem sIns0 (a : Option Addr) (cap : Nat) (w : World) : Calls Tryz.prog 138 #[.slice a 0 cap, .int .i64 0, .int .i64 0] w fun e w' => e = .returned (.tuple #[]) ∧ w' = w := by
  go_enter Tryz.func138, Tryz.ntmps138
  go_wp2
  refine wp_loop_rounds 1 ?_
  rw [rounds_succ]
  go_wp2
  go_end0
  exact ⟨rfl, rfl⟩
set_option maxRecDepth 100000 in
set_option maxHeartbeats 1000000 in
theorem sPdq0 (a : Option Addr) (cap : Nat) (lim : Int) (w : World) : Calls Tryz.prog 118 #[.slice a 0 cap, .int .i64 0, .int .i64 0, .int .i64 lim] w fun e w' => e = .returned (.tuple #[]) ∧ w' = w := by
  go_enter Tryz.func118, Tryz.ntmps118
  go_wp2
  refine wp_loop_rounds 1 ?_
  rw [rounds_succ]
  go_wp2_with (go_at_call 138; refine (sIns0 _ _ _).mono ?_; rintro e w1 ⟨rfl, rfl⟩)
  (try simp only [Exit.inBlock, Exit.then]); refine bodyPost_ret (results_none rfl _ _ _) rfl ?_
  exact ⟨rfl, rfl⟩
theorem sSort0 (a : Option Addr) (cap : Nat) (w : World) : Calls Tryz.prog 82 #[.slice a 0 cap] w fun e w' => e = .returned (.tuple #[]) ∧ w' = w := by
  go_enter Tryz.func82, Tryz.ntmps82
  go_wp2_with (first | (go_at_call 119; refine (Tryz.bits_Len 0 _ (by omega) (by omega)).mono ?_; rintro e w1 ⟨rfl, rfl⟩) | (go_at_call 118; refine (sPdq0 _ _ _ _).mono ?_; rintro e w1 ⟨rfl, rfl⟩))
  go_end0
  exact ⟨rfl, rfl⟩
theorem bl_le : ∀ f x : Nat, Lib.bitLenAux f x ≤ f
  | 0, _ => by simp [Lib.bitLenAux]
  | f + 1, x => by
    rw [Lib.bitLenAux]
    split
    · omega
    · have := bl_le f (x / 2); omega
theorem bitLen_small (n : Nat) : Lib.bitLen n < 1152921504606846976 := by
  have := bl_le 64 n
  unfold Lib.bitLen
  omega
theorem sSort (g off cap n : Nat) (d : Array Int) (w : World) (h : Arr w g off d) (hn : d.size = n) (hm : n ≤ 1000000) :
    Calls Tryz.prog 82 #[.slice (some ⟨g, off, none⟩) n cap] w fun e w' => e = .returned (.tuple #[]) ∧ ∃ d', (PermIn 0 n d d' ∧ Srt 0 n d') ∧ Arr w' g off d' ∧ But1 g w w' := by
  have HA := Lib.hid h
  have hbl := bitLen_small n
  have h64 := (Tryz.bits_Len (n : Int) w (by omega) (by omega))
  rw [Int.toNat_natCast] at h64
  have H64 := Lib.hid h64
  have HBL := Lib.hid hbl
  clear h h64 hbl
  have hw : IntKind.u64.wrap (n : Int) = (n : Int) := by rw [IntKind.wrap_u64]; omega
  go_enter Tryz.func82, Tryz.ntmps82
  go_wp2_with fail
  refine H64.out.mono ?_
  rintro e w1 ⟨rfl, rfl⟩
  go_wp2_with fail
  refine (sPdq (n + 1) g off cap 0 n (Lib.bitLen n) n d _ (by omega) HA.out hn (by omega) (Nat.le_refl _) (by omega) HBL.out (.inl rfl)).mono ?_
  rintro e w2 ⟨rfl, d', hd, hA, hB⟩
  have HD := Lib.hid hd
  have HA2 := Lib.hid hA
  have HB2 := Lib.hid hB
  clear hd hA hB
  go_wp2
  go_end0
  exact ⟨rfl, d', HD.out, HA2.out, HB2.out⟩
end Go.Proofs.YtiabbkjmgaemaaaGreat
