/- A row of addresses in a block of the call's own, as an array that is sorted in place. -/
import Derived.Test.YtiabbkjmgaemaaaGreatDB0
import Derived.Test.YtiabbkjmgaemaaaGreatDB1
import Derived.Sort.LotA
import Derived.Sort.Row
import Derived.CellFam
import Derived.BigGuard
import Derived.BigCall
import Derived.Deep.Draws
import Derived.BigQuiet
namespace Go.Proofs.YtiabbkjmgaemaaaGreat
set_option linter.unusedVariables false
open Go.RowKit
open Go.Sort (swp)

/-- Block g holds the numbers d from place off on, none frozen. -/
def Arr (w : World) (g off : Nat) (d : Array Int) : Prop := ∃ c : Array Value, w.heap[g]? = some (.cells c 25 (0, 0)) ∧ off + d.size ≤ c.size ∧ ∀ i, i < d.size → c[off + i]? = some (.int .u32 d[i]!)
namespace Arr
variable {w w' : World} {g off : Nat} {d : Array Int}
theorem cell (h : Arr w g off d) {i : Nat} (hi : i < d.size) : w.cell? ⟨g, off + i, none⟩ = some (.int .u32 d[i]!) := by
  obtain ⟨c, hb, _, hc⟩ := h
  simp [World.cell?, hb, hc i hi]
theorem frozen (h : Arr w g off d) (k : Nat) : w.frozen? ⟨g, k, none⟩ = false := by
  obtain ⟨c, hb, _, _⟩ := h
  simp [World.frozen?, hb]
theorem lt (h : Arr w g off d) : g < w.heap.size := by
  obtain ⟨c, hb, _, _⟩ := h
  exact (Array.getElem?_eq_some_iff.1 hb).1
theorem of_block (h : Arr w g off d) (e : w'.heap[g]? = w.heap[g]?) : Arr w' g off d := by
  obtain ⟨c, hb, h2⟩ := h
  exact ⟨c, e.trans hb, h2⟩
theorem below {B : Nat} (h : Arr w g off d) (hb : Below B w w') (hg : g < B) : Arr w' g off d := h.of_block (hb.block g hg)
theorem drewN (h : Arr w g off d) (n : Nat) : Arr (w.drewN n) g off d := h
theorem set (h : Arr w g off d) (i : Nat) (x : Int) (hi : i < d.size) : Arr (w.setCell ⟨g, off + i, none⟩ (.int .u32 x)) g off (d.setIfInBounds i x) := by
  obtain ⟨c, hb, hn, hc⟩ := h
  refine ⟨c.setIfInBounds (off + i) (.int .u32 x), ?_, by simpa using hn, fun j hj => ?_⟩
  · simp [World.setCell, Array.getElem?_modify, hb]
  · have hj' : j < d.size := by simpa using hj
    rw [Array.getElem?_setIfInBounds]
    by_cases e : i = j
    · subst e
      rw [if_pos rfl, if_pos (by omega), Go.Sort.getElem!_set_same d i x hi]
    · rw [if_neg (by omega), hc j hj', Go.Sort.getElem!_set_other d i j x (fun h => e h.symm)]
theorem swp (h : Arr w g off d) (i j : Nat) (hi : i < d.size) (hj : j < d.size) :
    Arr ((w.setCell ⟨g, off + i, none⟩ (.int .u32 d[j]!)).setCell ⟨g, off + j, none⟩ (.int .u32 d[i]!)) g off (Go.Sort.swp d i j) :=
  (h.set i _ hi).set j _ (by simpa using hj)
end Arr
theorem But1.swp {R : Nat} {w w' : World} (h : But1 R w w') (i j : Nat) (u v : Value) : But1 R w ((w'.setCell ⟨R, i, none⟩ u).setCell ⟨R, j, none⟩ v) := (h.trans (But1.set _ _ _ _)).trans (But1.set _ _ _ _)
/-- Less on numbers. -/
abbrev ltI (x y : Int) : Bool := Go.Sort.ltInt x y
theorem ltI_swo : Go.Sort.SWO ltI := Go.Sort.swo_ltInt
/-- What the row is, under a name of its own: what a walk reads and may write. -/
theorem Arr.fam {w : World} {g off n : Nat} {d : Array Int} (h : Arr w g off d) (hn : d.size = n) : ∃ G : Nat → Int, (∀ t, G t = d[t]!) ∧ (∀ t, t < n → w.cell? ⟨g, off + t, none⟩ = some (.int .u32 (G t))) ∧ (∀ t, t < n → w.frozen? ⟨g, off + t, none⟩ = false) :=
  ⟨fun t => d[t]!, fun _ => rfl, fun t ht => h.cell (by omega), fun t _ => h.frozen _⟩

theorem sIsNaN (x : Int) (w : World) : Calls Tryz.prog 162 #[.int .u32 x] w fun e w' => e = .returned (.bool false) ∧ w' = w := by
  go_enter Tryz.func162, Tryz.ntmps162
  go_wp2
  go_ret
  exact ⟨by simp, rfl⟩
set_option maxHeartbeats 1000000 in
theorem sLess (x y : Int) (w : World) : Calls Tryz.prog 144 #[.int .u32 x, .int .u32 y] w fun e w' => e = .returned (.bool (ltI x y)) ∧ w' = w := by
  go_enter Tryz.func144, Tryz.ntmps144
  go_wp2_with (go_at_call 162; refine (sIsNaN _ _).mono ?_; rintro e w' ⟨rfl, rfl⟩)
  go_ret
  exact ⟨rfl, rfl⟩
end Go.Proofs.YtiabbkjmgaemaaaGreat
/- The library's insertion sort. -/
namespace Go.Proofs.YtiabbkjmgaemaaaGreat
set_option linter.unusedVariables false
open Go.RowKit
open Go.Sort (insInner insOuter)

theorem ins_go {a j : Nat} {d : Array Int} (hj : a < j) (hl : ltI d[j]! d[j - 1]! = true) : insInner ltI a j d = insInner ltI a (j - 1) (Go.Sort.swp d j (j - 1)) := by
  cases j with
  | zero => omega
  | succ k =>
    rw [Nat.add_sub_cancel] at hl ⊢
    rw [insInner, if_pos (by simp [hl]; omega)]
theorem ins_stop {a j : Nat} {d : Array Int} (h : j ≤ a ∨ ltI d[j]! d[j - 1]! = false) : insInner ltI a j d = d := by
  cases j with
  | zero => rw [insInner]
  | succ k =>
    rw [Nat.add_sub_cancel] at h
    rw [insInner, if_neg]
    rcases h with h | h
    · simp; intro hh; omega
    · simp [h]

set_option maxHeartbeats 2000000 in
theorem sIns (g off cap a b n : Nat) (d : Array Int) (w : World) (h : Arr w g off d) (hn : d.size = n) (hab : a ≤ b) (hb : b ≤ n) (hsz : n < 4611686018427387904) :
    Calls Tryz.prog 138 #[.slice (some ⟨g, off, none⟩) n cap, .int .i64 a, .int .i64 b] w fun e w' =>
      e = .returned (.tuple #[]) ∧ Arr w' g off (Go.Sort.insertionSort ltI d a b) ∧ But1 g w w' := by
  have HA := Lib.hid h
  clear h
  go_enter Tryz.func138, Tryz.ntmps138
  go_wp2
  go_loopw [6] (fun vi wr => ∃ (i : Nat) (dk : Array Int), vi = .int .i64 i ∧ a < i ∧ i ≤ b + 1 ∧ dk.size = n ∧ Arr wr g off dk ∧ But1 g w wr ∧
      insOuter ltI a b i dk = insOuter ltI a b (a + 1) d) (fun vi _ => b + 1 - (intOf vi).toNat)
  case atStart => exact ⟨a + 1, d, by go_num, by omega, by omega, hn, HA.out, But1.refl _ _, rfl⟩
  case round =>
    obtain ⟨i, dk, rfl, hai, hib, hsk, hA, hB, hO⟩ := hrel
    have HO := Lib.hid hO
    have HAK := Lib.hid hA
    have HBK := Lib.hid hB
    clear hO hA hB
    go_wp2
    · have hlt : i < b := by assumption
      go_loopw [7] (fun vj wr2 => ∃ (j : Nat) (dj : Array Int), vj = .int .i64 j ∧ a ≤ j ∧ j ≤ i ∧ dj.size = n ∧ Arr wr2 g off dj ∧ But1 g w wr2 ∧
          insInner ltI a j dj = insInner ltI a i dk) (fun vj _ => (intOf vj).toNat)
      case atStart => exact ⟨i, dk, rfl, by omega, Nat.le_refl _, hsk, HAK.out, HBK.out, rfl⟩
      case round =>
        obtain ⟨j, dj, rfl, haj, hji, hsj, hA, hB, hI⟩ := hrel
        obtain ⟨G, hG, hcw, hfw⟩ := hA.fam hsj
        have HG := Lib.hid hG
        have HI := Lib.hid hI
        have HAJ := Lib.hid hA
        have HBJ := Lib.hid hB
        have out : (j ≤ a ∨ ltI dj[j]! dj[j - 1]! = false) → insOuter ltI a b (i + 1) dj = insOuter ltI a b (a + 1) d := fun hs => by
          rw [← HO.out, insOuter.eq_1 ltI a b i, if_pos hlt, ← HI.out, ins_stop hs]
        have OUT := Lib.hid out
        clear hG hI hA hB out
        go_wp2
        by_cases hja : a < j
        · go_quiet (first | (go_at_call 144; refine Calls.quiet_of_same (sLess _ _ _)))
          go_wp2
          · have hl : ltI (G j) (G (j - 1)) = true := by assumption
            go_region
            all_goals go_wp2
            go_roundw
            case rel =>
              refine ⟨j - 1, Go.Sort.swp dj j (j - 1), by congr 1; omega, by omega, by omega, by rw [Go.Sort.size_swp]; exact hsj, ?_, (HBJ.out.drewN _).swp _ _ _ _, ?_⟩
              · rw [HG.out, HG.out]
                exact (HAJ.out.drewN _).swp j (j - 1) (by omega) (by omega)
              · rw [← HI.out, ins_go hja (by rw [← HG.out, ← HG.out]; exact hl)]
            case measure => simp [intOf]; omega
          · have hl : ltI (G j) (G (j - 1)) = false := by assumption
            go_roundw
            case rel => exact ⟨i + 1, dj, by go_num, by omega, by omega, hsj, HAJ.out.drewN _, HBJ.out.drewN _, OUT.out (Or.inr (by rw [← HG.out, ← HG.out]; exact hl))⟩
            case measure => simp [intOf]; omega
        · go_quiet (first | (go_at_call 144; refine Calls.quiet_of_same (sLess _ _ _)))
          go_wp2
          go_roundw
          case rel => exact ⟨i + 1, dj, by go_num, by omega, by omega, hsj, HAJ.out.drewN _, HBJ.out.drewN _, OUT.out (Or.inl (by omega))⟩
          case measure => simp [intOf]; omega
    · have hge : ¬ i < b := by assumption
      go_end0
      refine ⟨rfl, ?_, HBK.out⟩
      have e : Go.Sort.insertionSort ltI d a b = dk := by
        unfold Go.Sort.insertionSort
        rw [← HO.out, insOuter.eq_1, if_neg hge]
      rw [e]
      exact HAK.out
end Go.Proofs.YtiabbkjmgaemaaaGreat
/- The library's heap sort. -/
namespace Go.Proofs.YtiabbkjmgaemaaaGreat
set_option linter.unusedVariables false
open Go.RowKit
open Go.Sort (siftDown heapBuild heapPop)

theorem sd_stop {hi first root : Nat} {d : Array Int} (h : hi ≤ 2 * root + 1) : siftDown ltI hi first root d = d := by
  rw [siftDown, dif_pos h]
/-- The greater child. -/
def Kid (d : Array Int) (hi first root c : Nat) : Prop :=
  (c = 2 * root + 2 ∧ 2 * root + 2 < hi ∧ ltI d[first + (2 * root + 1)]! d[first + (2 * root + 1) + 1]! = true) ∨ (c = 2 * root + 1 ∧ (hi ≤ 2 * root + 2 ∨ ltI d[first + (2 * root + 1)]! d[first + (2 * root + 1) + 1]! = false))
theorem sd_leaf {hi first root c : Nat} {d : Array Int} (h : 2 * root + 1 < hi) (hc : Kid d hi first root c) (hl : ltI d[first + root]! d[first + c]! = false) : siftDown ltI hi first root d = d := by
  rw [siftDown, dif_neg (by omega)]
  rcases hc with ⟨rfl, h2, h3⟩ | ⟨rfl, h2⟩
  · rw [if_pos (by simp only [h3, Bool.and_true]; exact decide_eq_true (by omega)), if_pos (by simp only [hl, Bool.not_false])]
  · rw [if_neg, if_pos (by simp only [hl, Bool.not_false])]
    rcases h2 with h2 | h2
    · rw [decide_eq_false (by omega)]; simp
    · rw [h2]; simp
theorem sd_go {hi first root c : Nat} {d : Array Int} (h : 2 * root + 1 < hi) (hc : Kid d hi first root c) (hl : ltI d[first + root]! d[first + c]! = true) : siftDown ltI hi first root d = siftDown ltI hi first c (Go.Sort.swp d (first + root) (first + c)) := by
  rw [siftDown, dif_neg (by omega)]
  rcases hc with ⟨rfl, h2, h3⟩ | ⟨rfl, h2⟩
  · rw [if_pos (by simp only [h3, Bool.and_true]; exact decide_eq_true (by omega)), if_neg (by simp only [hl, Bool.not_true]; exact Bool.false_ne_true), dif_pos h2]
  · rw [if_neg, if_neg (by simp only [hl, Bool.not_true]; exact Bool.false_ne_true)]
    rcases h2 with h2 | h2
    · rw [decide_eq_false (by omega)]; simp
    · rw [h2]; simp
theorem kid_lt {d : Array Int} {hi first root c : Nat} (hc : Kid d hi first root c) (h : 2 * root + 1 < hi) : root < c ∧ c < hi := by
  rcases hc with ⟨rfl, h2, _⟩ | ⟨rfl, _⟩ <;> omega

set_option maxHeartbeats 4000000 in
theorem sSift (g off cap lo hi first n : Nat) (d : Array Int) (w : World) (h : Arr w g off d) (hn : d.size = n) (hh : first + hi ≤ n) (hlo : lo ≤ n) (hsz : n < 1152921504606846976) :
    Calls Tryz.prog 157 #[.slice (some ⟨g, off, none⟩) n cap, .int .i64 lo, .int .i64 hi, .int .i64 first] w fun e w' =>
      e = .returned (.tuple #[]) ∧ Arr w' g off (siftDown ltI hi first lo d) ∧ But1 g w w' := by
  have HA := Lib.hid h
  clear h
  go_enter Tryz.func157, Tryz.ntmps157
  go_wp2
  go_loopw [8] (fun v wr => ∃ (root : Nat) (dk : Array Int), v = .int .i64 root ∧ root ≤ n ∧ dk.size = n ∧ Arr wr g off dk ∧ But1 g w wr ∧
      siftDown ltI hi first root dk = siftDown ltI hi first lo d) (fun v _ => n + hi - (intOf v).toNat)
  case atStart => exact ⟨lo, d, rfl, hlo, hn, HA.out, But1.refl _ _, rfl⟩
  case round =>
    obtain ⟨root, dk, rfl, hro, hsk, hA, hB, hO⟩ := hrel
    obtain ⟨G, hG, hcw, hfw⟩ := hA.fam hsk
    have HG := Lib.hid hG
    have HO := Lib.hid hO
    have HAK := Lib.hid hA
    have HBK := Lib.hid hB
    clear hG hO hA hB
    by_cases h1 : hi ≤ 2 * root + 1
    · go_wp2
      go_end0
      exact ⟨rfl, by rw [← HO.out, sd_stop h1]; exact HAK.out, HBK.out⟩
    · have FIN : ∀ (c q : Nat), Kid dk hi first root c → ∀ x, x = G (first + c) → ltI (G (first + root)) x = false → Arr (wr.drewN q) g off (siftDown ltI hi first lo d) ∧ But1 g w (wr.drewN q) := fun c q hc x ex hl =>
        ⟨by rw [← HO.out, sd_leaf (by omega) hc (by rw [← HG.out, ← HG.out, ← ex]; exact hl)]; exact HAK.out.drewN q, HBK.out.drewN q⟩
      have GO : ∀ (c q : Nat), Kid dk hi first root c → ∀ x j, x = G (first + c) → j = first + c → ltI (G (first + root)) x = true → ∃ (root' : Nat) (dk' : Array Int), Value.int .i64 (c : Int) = .int .i64 (root' : Int) ∧ root' ≤ n ∧ dk'.size = n ∧
          Arr (((wr.drewN q).setCell ⟨g, off + (first + root), none⟩ (.int .u32 x)).setCell ⟨g, off + j, none⟩ (.int .u32 (G (first + root)))) g off dk' ∧
          But1 g w (((wr.drewN q).setCell ⟨g, off + (first + root), none⟩ (.int .u32 x)).setCell ⟨g, off + j, none⟩ (.int .u32 (G (first + root)))) ∧
          siftDown ltI hi first root' dk' = siftDown ltI hi first lo d := fun c q hc x j ex ej hl => by
        have hk := kid_lt hc (by omega)
        subst ex ej
        refine ⟨c, Go.Sort.swp dk (first + root) (first + c), rfl, by omega, by rw [Go.Sort.size_swp]; exact hsk, ?_, (HBK.out.drewN q).swp _ _ _ _, ?_⟩
        · rw [HG.out, HG.out]
          exact (HAK.out.drewN q).swp _ _ (by omega) (by omega)
        · rw [← HO.out, sd_go (by omega) hc (by rw [← HG.out, ← HG.out]; exact hl)]
      have e1 : first + 2 * root + 1 = first + (2 * root + 1) := by omega
      have e2 : first + 2 * root + 2 = first + (2 * root + 1) + 1 := by omega
      have KR : 2 * root + 2 < hi → ltI (G (first + 2 * root + 1)) (G (first + 2 * root + 2)) = true → Kid dk hi first root (2 * root + 2) := fun a b => .inl ⟨rfl, a, by rw [← HG.out, ← HG.out, ← e2, ← e1]; exact b⟩
      have KL : (hi ≤ 2 * root + 2 ∨ ltI (G (first + 2 * root + 1)) (G (first + 2 * root + 2)) = false) → Kid dk hi first root (2 * root + 1) := fun a => .inr ⟨rfl, a.imp id fun b => by rw [← HG.out, ← HG.out, ← e2, ← e1]; exact b⟩
      have FIN := Lib.hid FIN
      have GO := Lib.hid GO
      have KR := Lib.hid KR
      have KL := Lib.hid KL
      clear e1 e2 HG HO HAK HBK
      by_cases h2 : 2 * root + 2 < hi
      · have h2z : 2 * (root : Int) + 1 + 1 < (hi : Int) := by omega
        go_wp2_with fail
        go_big_quiet (first | (go_at_call 144; refine Calls.quiet_of_same (sLess _ _ _)))
        go_wp2_with fail
        · have K := Lib.hid (KR.out h2 (by assumption))
          revert nq; intro nq1
          have FIN2 := Lib.hid (fun q x ex hl => FIN.out (2 * root + 2) (nq1 + q) K.out x ex hl)
          have GO2 := Lib.hid (fun q x j ex ej hl => GO.out (2 * root + 2) (nq1 + q) K.out x j ex ej hl)
          simp only [← World.drewN_drewN] at FIN2 GO2
          have hcw2 : ∀ t, t < n → (wr.drewN nq1).cell? ⟨g, off + t, none⟩ = some (.int .u32 (G t)) := hcw
          have hfw2 : ∀ t, t < n → (wr.drewN nq1).frozen? ⟨g, off + t, none⟩ = false := hfw
          clear hcw hfw FIN GO KR KL
          generalize wr.drewN nq1 = wr2 at hcw2 hfw2 FIN2 GO2 ⊢
          go_big_quiet (first | (go_at_call 144; refine Calls.quiet_of_same (sLess _ _ _)))
          go_wp2_with fail
          · (try simp only [Exit.inBlock, Exit.then]); refine bodyPost_ret (results_none rfl _ _ _) rfl ?_
            have hb : (!ltI (G (first + root)) (G (first + 2 * root + 2))) = true := by assumption
            rw [Bool.not_eq_true'] at hb
            exact ⟨rfl, FIN2.out _ _ (congrArg G (by omega)) hb⟩
          · have hl : (!ltI (G (first + root)) (G (first + 2 * root + 2))) = false := by assumption
            rw [Bool.not_eq_false'] at hl
            go_region
            go_wp2
            go_roundw
            case rel => exact GO2.out _ _ _ (congrArg G (by omega)) (by omega) hl
            case measure => simp [intOf]; omega
        · have K := Lib.hid (KL.out (.inr (by assumption)))
          revert nq; intro nq1
          have FIN2 := Lib.hid (fun q x ex hl => FIN.out (2 * root + 1) (nq1 + q) K.out x ex hl)
          have GO2 := Lib.hid (fun q x j ex ej hl => GO.out (2 * root + 1) (nq1 + q) K.out x j ex ej hl)
          simp only [← World.drewN_drewN] at FIN2 GO2
          have hcw2 : ∀ t, t < n → (wr.drewN nq1).cell? ⟨g, off + t, none⟩ = some (.int .u32 (G t)) := hcw
          have hfw2 : ∀ t, t < n → (wr.drewN nq1).frozen? ⟨g, off + t, none⟩ = false := hfw
          clear hcw hfw FIN GO KR KL
          generalize wr.drewN nq1 = wr2 at hcw2 hfw2 FIN2 GO2 ⊢
          go_big_quiet (first | (go_at_call 144; refine Calls.quiet_of_same (sLess _ _ _)))
          go_wp2_with fail
          · (try simp only [Exit.inBlock, Exit.then]); refine bodyPost_ret (results_none rfl _ _ _) rfl ?_
            have hb : (!ltI (G (first + root)) (G (first + 2 * root + 1))) = true := by assumption
            rw [Bool.not_eq_true'] at hb
            exact ⟨rfl, FIN2.out _ _ (congrArg G (by omega)) hb⟩
          · have hl : (!ltI (G (first + root)) (G (first + 2 * root + 1))) = false := by assumption
            rw [Bool.not_eq_false'] at hl
            go_region
            go_wp2
            go_roundw
            case rel => exact GO2.out _ _ _ (congrArg G (by omega)) (by omega) hl
            case measure => simp [intOf]; omega
      · have h2z : decide (2 * (root : Int) + 1 + 1 < (hi : Int)) = false := decide_eq_false (by omega)
        go_wp2_with fail
        go_big_quiet (first | (go_at_call 144; refine Calls.quiet_of_same (sLess _ _ _)))
        go_wp2_with fail
        have K := Lib.hid (KL.out (.inl (by omega)))
        revert nq; intro nq1
        have FIN2 := Lib.hid (fun q x ex hl => FIN.out (2 * root + 1) (nq1 + q) K.out x ex hl)
        have GO2 := Lib.hid (fun q x j ex ej hl => GO.out (2 * root + 1) (nq1 + q) K.out x j ex ej hl)
        simp only [← World.drewN_drewN] at FIN2 GO2
        have hcw2 : ∀ t, t < n → (wr.drewN nq1).cell? ⟨g, off + t, none⟩ = some (.int .u32 (G t)) := hcw
        have hfw2 : ∀ t, t < n → (wr.drewN nq1).frozen? ⟨g, off + t, none⟩ = false := hfw
        clear hcw hfw FIN GO KR KL
        generalize wr.drewN nq1 = wr2 at hcw2 hfw2 FIN2 GO2 ⊢
        go_big_quiet (first | (go_at_call 144; refine Calls.quiet_of_same (sLess _ _ _)))
        go_wp2_with fail
        · (try simp only [Exit.inBlock, Exit.then]); refine bodyPost_ret (results_none rfl _ _ _) rfl ?_
          have hb : (!ltI (G (first + root)) (G (first + 2 * root + 1))) = true := by assumption
          rw [Bool.not_eq_true'] at hb
          exact ⟨rfl, FIN2.out _ _ (congrArg G (by omega)) hb⟩
        · have hl : (!ltI (G (first + root)) (G (first + 2 * root + 1))) = false := by assumption
          rw [Bool.not_eq_false'] at hl
          go_region
          go_wp2
          go_roundw
          case rel => exact GO2.out _ _ _ (congrArg G (by omega)) (by omega) hl
          case measure => simp [intOf]; omega
end Go.Proofs.YtiabbkjmgaemaaaGreat
/- The library's heap sort: all of it. -/
namespace Go.Proofs.YtiabbkjmgaemaaaGreat
set_option linter.unusedVariables false
open Go.RowKit
open Go.Sort (siftDown heapBuild heapPop)

theorem sift_size {hi first root : Nat} {d : Array Int} (h : first + hi ≤ d.size) : (siftDown ltI hi first root d).size = d.size := by
  induction hm : hi - root using Nat.strongRecOn generalizing root d with
  | _ m ih =>
    by_cases h1 : hi ≤ 2 * root + 1
    · rw [sd_stop h1]
    · obtain ⟨c, hc⟩ : ∃ c, Kid d hi first root c := by
        by_cases h2 : 2 * root + 2 < hi ∧ ltI d[first + (2 * root + 1)]! d[first + (2 * root + 1) + 1]! = true
        · exact ⟨_, .inl ⟨rfl, h2.1, h2.2⟩⟩
        · refine ⟨_, .inr ⟨rfl, ?_⟩⟩
          by_cases h3 : 2 * root + 2 < hi
          · exact .inr (by cases e : ltI d[first + (2 * root + 1)]! d[first + (2 * root + 1) + 1]!; rfl; exact absurd ⟨h3, e⟩ h2)
          · exact .inl (by omega)
      have hk := kid_lt hc (by omega)
      cases hl : ltI d[first + root]! d[first + c]!
      · rw [sd_leaf (by omega) hc hl]
      · rw [sd_go (by omega) hc hl, ih (hi - c) (by omega) (by rw [Go.Sort.size_swp]; exact h) rfl, Go.Sort.size_swp]

theorem half (hi : Nat) : ((hi : Int) - 1).tdiv 2 = (((hi - 1) / 2 : Nat) : Int) := by
  cases hi with
  | zero => rfl
  | succ h =>
    rw [show ((h + 1 : Nat) : Int) - 1 = (h : Int) by omega, Nat.add_sub_cancel]
    rfl
set_option maxHeartbeats 2000000 in
theorem sHeap (g off cap a b n : Nat) (d : Array Int) (w : World) (h : Arr w g off d) (hn : d.size = n) (hab : a ≤ b) (hb : b ≤ n) (hsz : n < 1152921504606846976) :
    Calls Tryz.prog 139 #[.slice (some ⟨g, off, none⟩) n cap, .int .i64 a, .int .i64 b] w fun e w' =>
      e = .returned (.tuple #[]) ∧ Arr w' g off (Go.Sort.heapSort ltI d a b) ∧ But1 g w w' := by
  obtain ⟨hi, hhi⟩ : ∃ hi, b - a = hi := ⟨_, rfl⟩
  have HA := Lib.hid h
  have e0 : (b : Int) - (a : Int) = (hi : Int) := by omega
  have E0 := Lib.hid e0
  have HHI := Lib.hid hhi
  have q0 : a + hi ≤ n := by omega
  clear h e0 hhi
  go_enter Tryz.func139, Tryz.ntmps139
  go_wp2
  rw [E0.out]
  go_loopw [9] (fun v wr => ∃ (k : Nat) (dk : Array Int), v = .int .i64 ((k : Int) - 1) ∧ k ≤ hi + 1 ∧ (k = 0 ∨ k ≤ hi ∨ hi = 0) ∧ dk.size = n ∧ Arr wr g off dk ∧ But1 g w wr ∧
      heapBuild ltI hi a k dk = heapBuild ltI hi a ((hi - 1) / 2 + 1) d) (fun v _ => (intOf v + 1).toNat)
  case atStart =>
    refine ⟨(hi - 1) / 2 + 1, d, ?_, by omega, by omega, hn, HA.out, But1.refl _ _, rfl⟩
    rw [half]
    congr 1
    omega
  case round =>
    obtain ⟨k, dk, rfl, hk, hk2, hsk, hA, hB, hO⟩ := hrel
    have HO := Lib.hid hO
    have HAK := Lib.hid hA
    have HBK := Lib.hid hB
    clear hO hA hB
    cases k with
    | zero =>
      go_wp2
      go_loopw [10] (fun v wr => ∃ (k : Nat) (dk : Array Int), v = .int .i64 ((k : Int) - 1) ∧ k ≤ hi ∧ dk.size = n ∧ Arr wr g off dk ∧ But1 g w wr ∧
          heapPop ltI a k dk = Go.Sort.heapSort ltI d a b) (fun v _ => (intOf v + 1).toNat)
      case atStart =>
        refine ⟨hi, dk, rfl, Nat.le_refl _, hsk, HAK.out, HBK.out, ?_⟩
        unfold Go.Sort.heapSort
        rw [HHI.out, ← HO.out, heapBuild]
      case round =>
        obtain ⟨k, dk, rfl, hk, hsk, hA, hB, hO⟩ := hrel
        clear HO HAK HBK
        have HO := Lib.hid hO
        have HAK := Lib.hid hA
        have HBK := Lib.hid hB
        cases k with
        | zero =>
          clear hO hA hB
          go_wp2
          go_end0
          refine ⟨rfl, ?_, HBK.out⟩
          rw [← HO.out, heapPop]
          exact HAK.out
        | succ k =>
          obtain ⟨G, hG, hcw, hfw⟩ := hA.fam hsk
          have HG := Lib.hid hG
          clear hO hA hB hG
          have ek : ((k + 1 : Nat) : Int) - 1 = (k : Int) := by omega
          rw [ek]
          have SW : ∀ q x y i j, x = G (a + k) → y = G a → i = a → j = a + k → Arr (((wr.drewN q).setCell ⟨g, off + i, none⟩ (.int .u32 x)).setCell ⟨g, off + j, none⟩ (.int .u32 y)) g off (Go.Sort.swp dk a (a + k)) ∧
              But1 g w (((wr.drewN q).setCell ⟨g, off + i, none⟩ (.int .u32 x)).setCell ⟨g, off + j, none⟩ (.int .u32 y)) := by
            rintro q x y i j rfl rfl rfl rfl
            refine ⟨?_, (HBK.out.drewN q).swp _ _ _ _⟩
            rw [HG.out, HG.out]
            exact (HAK.out.drewN q).swp _ _ (by omega) (by omega)
          have NX : ∀ w', Arr w' g off (siftDown ltI k a 0 (Go.Sort.swp dk a (a + k))) → But1 g w w' → ∃ (k' : Nat) (dk' : Array Int), Value.int .i64 ((k : Int) - 1) = .int .i64 ((k' : Int) - 1) ∧ k' ≤ hi ∧ dk'.size = n ∧ Arr w' g off dk' ∧ But1 g w w' ∧
              heapPop ltI a k' dk' = Go.Sort.heapSort ltI d a b := fun w' h1 h2 => ⟨k, _, rfl, by omega, by rw [sift_size (hi := k) (first := a) (by rw [Go.Sort.size_swp]; omega), Go.Sort.size_swp]; exact hsk, h1, h2, by rw [← HO.out, heapPop]⟩
          have SW := Lib.hid SW
          have NX := Lib.hid NX
          have hswp : (Go.Sort.swp dk a (a + k)).size = n := by rw [Go.Sort.size_swp]; exact hsk
          have HSWP := Lib.hid hswp
          clear hswp HO
          rcases Nat.eq_zero_or_pos k with rfl | hk0
          · go_wp2_with fail
            go_region
            go_wp2_with (go_at_call 157; refine (sSift g off cap 0 0 a n (Go.Sort.swp dk a (a + 0)) _ (SW.out 1 _ _ _ _ (congrArg G (by omega)) rfl rfl rfl).1 HSWP.out (by omega) (by omega) hsz).mono ?_; rintro e w' ⟨rfl, hA1, hB1⟩; have HA1 := Lib.hid hA1; have HB1 := Lib.hid ((SW.out 1 _ _ _ _ (congrArg G (by omega)) rfl rfl rfl).2.trans hB1); clear hA1 hB1)
            go_roundw
            case rel => exact NX.out _ HA1.out HB1.out
            case measure => simp [intOf]
          · go_wp2_with fail
            go_region
            go_wp2_with (go_at_call 157; refine (sSift g off cap 0 k a n (Go.Sort.swp dk a (a + k)) _ (SW.out 1 _ _ _ _ (congrArg G (by omega)) rfl rfl rfl).1 HSWP.out (by omega) (by omega) hsz).mono ?_; rintro e w' ⟨rfl, hA1, hB1⟩; have HA1 := Lib.hid hA1; have HB1 := Lib.hid ((SW.out 1 _ _ _ _ (congrArg G (by omega)) rfl rfl rfl).2.trans hB1); clear hA1 hB1)
            go_roundw
            case rel => exact NX.out _ HA1.out HB1.out
            case measure => simp [intOf]
    | succ k =>
      have ek : ((k + 1 : Nat) : Int) - 1 = (k : Int) := by omega
      rw [ek]
      go_wp2_with (go_at_call 157; refine (sSift g off cap k hi a n dk _ HAK.out hsk q0 (by omega) hsz).mono ?_; rintro e w' ⟨rfl, hA1, hB1⟩; have HA1 := Lib.hid hA1; have HB1 := Lib.hid hB1; clear hA1 hB1)
      go_roundw
      case rel =>
        refine ⟨k, siftDown ltI hi a k dk, rfl, by omega, by omega, ?_, HA1.out, HBK.out.trans HB1.out, ?_⟩
        · exact (sift_size (hi := hi) (first := a) (root := k) (d := dk) (by omega)).trans hsk
        · rw [← HO.out, heapBuild]
      case measure => simp [intOf]
end Go.Proofs.YtiabbkjmgaemaaaGreat
/- The library's sort: turning a range round, the choice of a pivot: what is asked of them alone. -/
namespace Go.Proofs.YtiabbkjmgaemaaaGreat
set_option linter.unusedVariables false
open Go.RowKit
open Go.Sort (PermIn)

theorem perm_swp {a b i j : Nat} {d dk : Array Int} (h : PermIn a b d dk) (hi : a ≤ i) (hi' : i < b) (hj : a ≤ j) (hj' : j < b) (hb : b ≤ dk.size) : PermIn a b d (Go.Sort.swp dk i j) :=
  Go.Sort.permIn_trans _ _ _ _ _ h (Go.Sort.swp_permIn dk a b i j hi hi' hj hj' hb)

set_option maxHeartbeats 2000000 in
theorem sRev (g off cap a b n : Nat) (d : Array Int) (w : World) (h : Arr w g off d) (hn : d.size = n) (hab : a ≤ b) (hb : b ≤ n) (hsz : n < 1152921504606846976) :
    Calls Tryz.prog 142 #[.slice (some ⟨g, off, none⟩) n cap, .int .i64 a, .int .i64 b] w fun e w' =>
      e = .returned (.tuple #[]) ∧ ∃ d', PermIn a b d d' ∧ Arr w' g off d' ∧ But1 g w w' := by
  have HA := Lib.hid h
  clear h
  go_enter Tryz.func142, Tryz.ntmps142
  go_wp2
  go_loopw [6, 7] (fun v6 v7 wr => ∃ (i : Nat) (jz : Int) (dk : Array Int), v6 = .int .i64 i ∧ v7 = .int .i64 jz ∧ a ≤ i ∧ i ≤ b ∧ jz < b ∧ (i : Int) ≤ jz + 3 ∧ dk.size = n ∧ Arr wr g off dk ∧ But1 g w wr ∧ PermIn a b d dk)
    (fun v6 v7 _ => (intOf v7 - intOf v6).toNat)
  case atStart => exact ⟨a, (b : Int) - 1, d, rfl, rfl, by omega, by omega, by omega, by omega, hn, HA.out, But1.refl _ _, Go.Sort.permIn_refl _ _ _⟩
  case round =>
    obtain ⟨i, jz, dk, rfl, rfl, hai, hib, hj, hij, hsk, hA, hB, hP⟩ := hrel
    have HB := Lib.hid hB
    have HP := Lib.hid hP
    have HAK := Lib.hid hA
    clear hB hP
    by_cases hlt : (i : Int) < jz
    · obtain ⟨j, rfl⟩ : ∃ j : Nat, jz = j := ⟨jz.toNat, by omega⟩
      obtain ⟨G, hG, hcw, hfw⟩ := hA.fam hsk
      have HG := Lib.hid hG
      clear hA hG
      have hij' : i < j := by omega
      go_wp2_with fail
      go_region
      go_wp2
      go_roundw
      case rel =>
        refine ⟨i + 1, (j : Int) - 1, Go.Sort.swp dk i j, by go_num, rfl, by omega, by omega, by omega, by omega, by rw [Go.Sort.size_swp]; exact hsk, ?_, (HB.out.drewN 1).swp _ _ _ _, perm_swp HP.out hai (by omega) (by omega) (by omega) (by omega)⟩
        rw [HG.out, HG.out]
        exact (HAK.out.drewN 1).swp _ _ (by omega) (by omega)
      case measure => simp [intOf]; omega
    · clear hA
      go_wp2
      go_end0
      exact ⟨rfl, dk, HP.out, HAK.out, HB.out⟩

/-- A variable of its own that holds a number. -/
def IntAt (w : World) (R : Nat) (s : Int) : Prop := w.cell? ⟨R, 0, none⟩ = some (.int .i64 s) ∧ w.frozen? ⟨R, 0, none⟩ = false
theorem IntAt.set {w : World} {R : Nat} {s : Int} (h : IntAt w R s) (q : Nat) (t : Int) : IntAt ((w.drewN q).setCell ⟨R, 0, none⟩ (.int .i64 t)) R t :=
  ⟨World.cell?_setCell_same' _ _ _ (by rw [show (w.drewN q).cell? ⟨R, 0, none⟩ = w.cell? ⟨R, 0, none⟩ from rfl, h.1]; rfl), by rw [World.frozen?_setCell]; exact h.2⟩
theorem Arr.but {w w' : World} {g off R : Nat} {d : Array Int} (h : Arr w g off d) (hb : But1 R w w') (hne : g ≠ R) : Arr w' g off d := h.of_block (hb.block g h.lt hne)

set_option maxHeartbeats 2000000 in
theorem sOrd (g off cap a b n lo hi R : Nat) (s : Int) (d : Array Int) (w : World) (h : Arr w g off d) (hn : d.size = n) (hhi : hi ≤ n) (ha : lo ≤ a) (ha' : a < hi) (hb : lo ≤ b) (hb' : b < hi) (hsz : n < 1152921504606846976) (hR : IntAt w R s) :
    Calls Tryz.prog 182 #[.slice (some ⟨g, off, none⟩) n cap, .int .i64 a, .int .i64 b, .pointer (some ⟨R, 0, none⟩)] w fun e w' =>
      ∃ (x y : Nat) (t : Int), e = .returned (.tuple #[.int .i64 x, .int .i64 y]) ∧ (lo ≤ x ∧ x < hi) ∧ (lo ≤ y ∧ y < hi) ∧ IntAt w' R t ∧ But1 R w w' := by
  obtain ⟨G, hG, hcw, hfw⟩ := h.fam hn
  have HRI := Lib.hid hR
  obtain ⟨r1, r2⟩ := hR
  clear h
  go_enter Tryz.func182, Tryz.ntmps182
  go_wp2
  go_quiet (first | (go_at_call 144; refine Calls.quiet_of_same (sLess _ _ _)))
  have r3 : (w.drewN nq).cell? ⟨R, 0, none⟩ = some (.int .i64 s) := r1
  have r4 : (w.drewN nq).frozen? ⟨R, 0, none⟩ = false := r2
  clear r1 r2
  go_wp2
  · go_ret2
    exact ⟨b, a, _, rfl, ⟨hb, hb'⟩, ⟨ha, ha'⟩, HRI.out.set _ _, ((But1.refl _ _).drewN _).trans (But1.set _ _ _ _)⟩
  · go_ret2
    exact ⟨a, b, s, rfl, ⟨ha, ha'⟩, ⟨hb, hb'⟩, HRI.out, (But1.refl _ _).drewN _⟩
end Go.Proofs.YtiabbkjmgaemaaaGreat
