/- The library's insertion sort. -/
import Derived.Test.YtllpmepmgnnoaaaGreatNr
import Derived.BigGuard
import Derived.BigCall
import Derived.Deep.Draws
namespace Go.Proofs.YtllpmepmgnnoaaaGreat
set_option linter.unusedVariables false
open Go.RowKit
open Go.Sort (insInner insOuter)

theorem ins_go {a j : Nat} {d : Array Int} (hj : a < j) (hl : ltI d[j]! d[j - 1]! = true) : insInner ltI a j d = insInner ltI a (j - 1) (Go.Sort.swp d j (j - 1)) := by
  cases j with
  | zero => omega
  | succ k =>
    rw [Nat.add_sub_cancel] at hl ⊢
    rw [insInner, if_pos (by simp [hl]; omega)]
theorem ins_stop {a j : Nat} {d : Array Int} (h : j ≤ a ∨ ltI d[j]! d[j - 1]! = false) : insInner ltI a j d = d := by
  cases j with
  | zero => rw [insInner]
  | succ k =>
    rw [Nat.add_sub_cancel] at h
    rw [insInner, if_neg]
    rcases h with h | h
    · simp; intro hh; omega
    · simp [h]

set_option maxHeartbeats 2000000 in
theorem sIns (g off cap a b n : Nat) (d : Array Int) (w : World) (h : Arr w g off d) (hn : d.size = n) (hab : a ≤ b) (hb : b ≤ n) (hsz : n < 4611686018427387904) :
    Calls Tryz.prog 79 #[.slice (some ⟨g, off, none⟩) n cap, .int .i64 a, .int .i64 b] w fun e w' =>
      e = .returned (.tuple #[]) ∧ Arr w' g off (Go.Sort.insertionSort ltI d a b) ∧ But1 g w w' := by
  have HA := Lib.hid h
  clear h
  go_enter Tryz.func79, Tryz.ntmps79
  go_wp2
  go_loopw [6] (fun vi wr => ∃ (i : Nat) (dk : Array Int), vi = .int .i64 i ∧ a < i ∧ i ≤ b + 1 ∧ dk.size = n ∧ Arr wr g off dk ∧ But1 g w wr ∧
      insOuter ltI a b i dk = insOuter ltI a b (a + 1) d) (fun vi _ => b + 1 - (intOf vi).toNat)
  case atStart => exact ⟨a + 1, d, by go_num, by omega, by omega, hn, HA.out, But1.refl _ _, rfl⟩
  case round =>
    obtain ⟨i, dk, rfl, hai, hib, hsk, hA, hB, hO⟩ := hrel
    have HO := Lib.hid hO
    have HAK := Lib.hid hA
    have HBK := Lib.hid hB
    clear hO hA hB
    go_wp2
    · have hlt : i < b := by assumption
      go_loopw [7] (fun vj wr2 => ∃ (j : Nat) (dj : Array Int), vj = .int .i64 j ∧ a ≤ j ∧ j ≤ i ∧ dj.size = n ∧ Arr wr2 g off dj ∧ But1 g w wr2 ∧
          insInner ltI a j dj = insInner ltI a i dk) (fun vj _ => (intOf vj).toNat)
      case atStart => exact ⟨i, dk, rfl, by omega, Nat.le_refl _, hsk, HAK.out, HBK.out, rfl⟩
      case round =>
        obtain ⟨j, dj, rfl, haj, hji, hsj, hA, hB, hI⟩ := hrel
        obtain ⟨G, hG, hcw, hfw⟩ := hA.fam hsj
        have HG := Lib.hid hG
        have HI := Lib.hid hI
        have HAJ := Lib.hid hA
        have HBJ := Lib.hid hB
        have out : (j ≤ a ∨ ltI dj[j]! dj[j - 1]! = false) → insOuter ltI a b (i + 1) dj = insOuter ltI a b (a + 1) d := fun hs => by
          rw [← HO.out, insOuter.eq_1 ltI a b i, if_pos hlt, ← HI.out, ins_stop hs]
        have OUT := Lib.hid out
        clear hG hI hA hB out
        go_wp2
        by_cases hja : a < j
        · go_quiet (first | (go_at_call 85; refine Calls.quiet_of_same (sLess _ _ _)))
          go_wp2
          · have hl : ltI (G j) (G (j - 1)) = true := by assumption
            go_region
            all_goals go_wp2
            go_roundw
            case rel =>
              refine ⟨j - 1, Go.Sort.swp dj j (j - 1), by congr 1; omega, by omega, by omega, by rw [Go.Sort.size_swp]; exact hsj, ?_, (HBJ.out.drewN _).swp _ _ _ _, ?_⟩
              · rw [HG.out, HG.out]
                exact (HAJ.out.drewN _).swp j (j - 1) (by omega) (by omega)
              · rw [← HI.out, ins_go hja (by rw [← HG.out, ← HG.out]; exact hl)]
            case measure => simp [intOf]; omega
          · have hl : ltI (G j) (G (j - 1)) = false := by assumption
            go_roundw
            case rel => exact ⟨i + 1, dj, by go_num, by omega, by omega, hsj, HAJ.out.drewN _, HBJ.out.drewN _, OUT.out (Or.inr (by rw [← HG.out, ← HG.out]; exact hl))⟩
            case measure => simp [intOf]; omega
        · go_quiet (first | (go_at_call 85; refine Calls.quiet_of_same (sLess _ _ _)))
          go_wp2
          go_roundw
          case rel => exact ⟨i + 1, dj, by go_num, by omega, by omega, hsj, HAJ.out.drewN _, HBJ.out.drewN _, OUT.out (Or.inl (by omega))⟩
          case measure => simp [intOf]; omega
    · have hge : ¬ i < b := by assumption
      go_end0
      refine ⟨rfl, ?_, HBK.out⟩
      have e : Go.Sort.insertionSort ltI d a b = dk := by
        unfold Go.Sort.insertionSort
        rw [← HO.out, insOuter.eq_1, if_neg hge]
      rw [e]
      exact HAK.out
end Go.Proofs.YtllpmepmgnnoaaaGreat
