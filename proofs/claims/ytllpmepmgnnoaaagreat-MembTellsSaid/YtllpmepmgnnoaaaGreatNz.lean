/- The library's sort: its two partitions. -/
import Derived.Test.YtllpmepmgnnoaaaGreatNv
import Derived.Deep.Cut
import Derived.Deep.CutRange
namespace Go.Proofs.YtllpmepmgnnoaaaGreat
set_option linter.unusedVariables false
open Go.RowKit
open Go.Sort (PermIn)

/-- How far a partition has come: what lies ahead of i fits L, what lies behind j doesn't. -/
structure Pt (L : Int → Bool) (a b i j : Nat) (d dk : Array Int) : Prop where
  perm : PermIn a b d dk
  lo : ∀ t, a < t → t < i → L dk[t]! = true
  hi : ∀ t, j < t → t < b → L dk[t]! = false
  ai : a < i
  ij : i ≤ j + 1
  jb : j < b
  size : b ≤ dk.size
namespace Pt
variable {L : Int → Bool} {a b i j : Nat} {d dk : Array Int}
theorem up (h : Pt L a b i j d dk) (hij : i ≤ j) (hl : L dk[i]! = true) : Pt L a b (i + 1) j d dk :=
  ⟨h.perm, fun t h1 h2 => by
    by_cases e : t = i
    · subst e; exact hl
    · exact h.lo t h1 (by omega), h.hi, by have := h.ai; omega, by omega, h.jb, h.size⟩
theorem down (h : Pt L a b i j d dk) (hij : i ≤ j) (hl : L dk[j]! = false) : Pt L a b i (j - 1) d dk := by
  have := h.ai
  refine ⟨h.perm, h.lo, fun t h1 h2 => ?_, h.ai, by omega, by have := h.jb; omega, h.size⟩
  by_cases e : t = j
  · subst e; exact hl
  · exact h.hi t (by omega) h2
theorem swp (h : Pt L a b i j d dk) (hij : i < j) (hi : L dk[i]! = false) (hj : L dk[j]! = true) : Pt L a b (i + 1) (j - 1) d (Go.Sort.swp dk i j) ∧ (Go.Sort.swp dk i j)[a]! = dk[a]! := by
  have h1 := h.ai
  have h2 := h.jb
  have h3 := h.size
  refine ⟨⟨perm_swp h.perm (by omega) (by omega) (by omega) (by omega) h.size, fun t t1 t2 => ?_, fun t t1 t2 => ?_, by omega, by omega, by omega, by rw [Go.Sort.size_swp]; exact h3⟩, ?_⟩
  · rw [Go.Sort.swp_get dk (by omega) (by omega), if_neg (by omega)]
    by_cases e : t = i
    · rw [if_pos e]; exact hj
    · rw [if_neg e]; exact h.lo t t1 (by omega)
  · rw [Go.Sort.swp_get dk (by omega) (by omega)]
    by_cases e : t = j
    · rw [if_pos e]; exact hi
    · rw [if_neg e, if_neg (by omega)]; exact h.hi t (by omega) t2
  · rw [Go.Sort.swp_get dk (by omega) (by omega), if_neg (by omega), if_neg (by omega)]
end Pt
theorem Arr.fam1 {w : World} {g off n : Nat} {d : Array Int} (h : Arr w g off d) (hn : d.size = n) (i : Nat) (hi : i < n) (x : Int) : ∃ G : Nat → Int, ∀ t, t < n → (w.setCell ⟨g, off + i, none⟩ (.int .u32 x)).cell? ⟨g, off + t, none⟩ = some (.int .u32 (G t)) :=
  ⟨fun t => (d.setIfInBounds i x)[t]!, fun t ht => (h.set i x (by omega)).cell (by simpa using by omega)⟩
/-- What partitionOrdered leaves. -/
def PartPost (a b : Nat) (d d' : Array Int) (mid : Nat) : Prop :=
  a ≤ mid ∧ mid < b ∧ PermIn a b d d' ∧ (∀ t, a ≤ t → t < mid → d'[t]! < d'[mid]!) ∧ (∀ t, mid < t → t < b → d'[mid]! ≤ d'[t]!)
theorem part_done {a b i j : Nat} {d dk : Array Int} {p : Int} (h : Pt (fun x => ltI x p) a b i j d dk) (hp : dk[a]! = p) (hij : j < i) : PartPost a b d (Go.Sort.swp dk j a) j := by
  have h1 := h.ai
  have h2 := h.jb
  have h3 := h.size
  have h4 := h.ij
  have em : (Go.Sort.swp dk j a)[j]! = p := by
    rw [Go.Sort.swp_get dk (by omega) (by omega)]
    by_cases e : j = a
    · rw [if_pos e, e]; exact hp
    · rw [if_neg e, if_pos rfl]; exact hp
  refine ⟨by omega, h2, perm_swp h.perm (by omega) (by omega) (by omega) (by omega) h.size, fun t t1 t2 => ?_, fun t t1 t2 => ?_⟩
  · rw [em, Go.Sort.swp_get dk (by omega) (by omega)]
    have hl : ∀ s, a < s → s < i → dk[s]! < p := fun s s1 s2 => by
      have := h.lo s s1 s2
      simpa [Go.Sort.ltInt] using this
    by_cases e : t = a
    · rw [if_pos e]; exact hl j (by omega) (by omega)
    · rw [if_neg e, if_neg (by omega)]; exact hl t (by omega) (by omega)
  · rw [em, Go.Sort.swp_get dk (by omega) (by omega), if_neg (by omega), if_neg (by omega)]
    have := h.hi t t1 t2
    simpa [Go.Sort.ltInt] using this
/-- What partitionEqualOrdered leaves. -/
def EqPost (a b : Nat) (d d' : Array Int) (p : Int) (mid : Nat) : Prop :=
  a < mid ∧ mid ≤ b ∧ PermIn a b d d' ∧ (∀ t, a ≤ t → t < mid → d'[t]! ≤ p) ∧ (∀ t, mid ≤ t → t < b → p < d'[t]!)
theorem eq_done {a b i j : Nat} {d dk : Array Int} {p : Int} (h : Pt (fun x => !ltI p x) a b i j d dk) (hp : dk[a]! = p) (hij : j < i) : EqPost a b d dk p i := by
  have h1 := h.ai
  have h2 := h.jb
  have h4 := h.ij
  refine ⟨h1, by omega, h.perm, fun t t1 t2 => ?_, fun t t1 t2 => ?_⟩
  · by_cases e : t = a
    · subst e; omega
    · have := h.lo t (by omega) t2
      simpa [Go.Sort.ltInt] using this
  · have := h.hi t (by omega) t2
    simpa [Go.Sort.ltInt] using this
theorem pt_start {L : Int → Bool} {a b pivot : Nat} {d : Array Int} (ha : a ≤ pivot) (hb : pivot < b) (hs : b ≤ d.size) : Pt L a b (a + 1) (b - 1) d (Go.Sort.swp d a pivot) ∧ (Go.Sort.swp d a pivot)[a]! = d[pivot]! := by
  refine ⟨⟨Go.Sort.swp_permIn d a b a pivot (Nat.le_refl _) (by omega) ha hb hs, fun t h1 h2 => by omega, fun t h1 h2 => by omega, by omega, by omega, by omega, by rw [Go.Sort.size_swp]; exact hs⟩, ?_⟩
  rw [Go.Sort.swp_get d (by omega) (by omega)]
  by_cases e : a = pivot
  · rw [if_pos e, e]
  · rw [if_neg e, if_pos rfl]


set_option maxRecDepth 100000 in
set_option maxHeartbeats 8000000 in
theorem sPart (g off cap a b pivot n : Nat) (d : Array Int) (w : World) (h : Arr w g off d) (hn : d.size = n) (hap : a ≤ pivot) (hpb : pivot < b) (hb : b ≤ n) (hsz : n < 1152921504606846976) :
    Calls Tryz.prog 87 #[.slice (some ⟨g, off, none⟩) n cap, .int .i64 a, .int .i64 b, .int .i64 pivot] w fun e w' =>
      ∃ (mid : Nat) (ap : Bool) (d' : Array Int), e = .returned (.tuple #[.int .i64 mid, .bool ap]) ∧ PartPost a b d d' mid ∧ Arr w' g off d' ∧ But1 g w w' := by
  obtain ⟨p, hpp⟩ : ∃ p, p = d[pivot]! := ⟨_, rfl⟩
  obtain ⟨L, hL⟩ : ∃ L : Int → Bool, L = fun x => ltI x p := ⟨_, rfl⟩
  have HL : Hid (∀ x, L x = ltI x p) := Lib.hid (fun x => by rw [hL])
  obtain ⟨G, hG, hcw, hfw⟩ := h.fam hn
  obtain ⟨G1, hcs⟩ := h.fam1 hn a (by omega) (G pivot)
  have HG := Lib.hid hG
  have HA0 := Lib.hid h
  obtain ⟨st1, st2⟩ := pt_start (L := L) hap hpb (show b ≤ d.size by omega)
  rw [← hpp] at st2
  have ST1 := Lib.hid st1
  have HLL := Lib.hid hL
  have HPP := Lib.hid hpp
  have ST2 := Lib.hid st2
  clear hG h hpp hL st1 st2
  go_enter Tryz.func87, Tryz.ntmps87
  go_wp2_with fail
  go_region
  go_wp2_with fail
  have hA1 : Arr ((w.setCell ⟨g, off + a, none⟩ (.int .u32 (G pivot))).setCell ⟨g, off + pivot, none⟩ (.int .u32 (G a))) g off (Go.Sort.swp d a pivot) := by
    rw [HG.out, HG.out]
    exact HA0.out.swp _ _ (by omega) (by omega)
  have hB1 : But1 g w ((w.setCell ⟨g, off + a, none⟩ (.int .u32 (G pivot))).setCell ⟨g, off + pivot, none⟩ (.int .u32 (G a))) := (But1.refl g w).swp _ _ _ _
  have HA := Lib.hid (hA1.drewN 1)
  have HB := Lib.hid (hB1.drewN 1)
  have hsk : (Go.Sort.swp d a pivot).size = n := by rw [Go.Sort.size_swp]; exact hn
  clear hA1 hB1 hcw hfw hcs HG HA0
  generalize Go.Sort.swp d a pivot = dk at HA hsk ST1 ST2
  have HP := Lib.hid ST2.out
  have HPT := Lib.hid ST1.out
  clear ST1 ST2
  obtain ⟨i, hi0⟩ : ∃ i, i = a + 1 := ⟨_, rfl⟩
  obtain ⟨j, hj0⟩ : ∃ j, j = b - 1 := ⟨_, rfl⟩
  rw [← hi0, ← hj0] at HPT
  have e1 : (b : Int) - 1 = (j : Int) := by omega
  have e2 : (a : Int) + 1 = (i : Int) := by omega
  rw [e1, e2]
  clear e1 e2 hi0 hj0
  go_loopw [10] (fun v wr => ∃ i' : Nat, v = .int .i64 (i' : Int) ∧ i ≤ i' ∧ Arr wr g off dk ∧ But1 g w wr ∧ Pt L a b i' j d dk) (fun v _ => j + 1 - (intOf v).toNat)
  case atStart => exact ⟨i, by go_num, Nat.le_refl _, HA.out, HB.out, HPT.out⟩
  case round =>
    obtain ⟨i, rfl, hmono, hA, hB, hPT⟩ := hrel
    clear HA HB HPT
    obtain ⟨G, hG, hcw, hfw⟩ := hA.fam hsk
    have HG := Lib.hid hG
    have HPT := Lib.hid hPT
    have HA := Lib.hid hA
    have HB := Lib.hid hB
    have b1 := hPT.ai
    have b2 := hPT.ij
    have b3 := hPT.jb
    clear hG hPT hA hB
    go_upto_region 3 with fail
    go_cut [43] from 30 to 45 (fun s wx => s = .bool (decide (i ≤ j) && L (G i)) ∧ Arr wx g off dk ∧ But1 g w wx)
    case first =>
      by_cases hij : i ≤ j
      · have hijz : (i : Int) ≤ (j : Int) := by omega
        go_big_quiet (first | (go_at_call 85; refine Calls.quiet_of_same (sLess _ _ _)))
        go_wp2_with fail
        go_meet
        case rel => exact ⟨by rw [HL.out, ← HP.out, ← HG.out]; simp [hij], HA.out.drewN _, HB.out.drewN _⟩
      · have hijz : decide ((i : Int) ≤ (j : Int)) = false := decide_eq_false (by omega)
        go_big_quiet (first | (go_at_call 85; refine Calls.quiet_of_same (sLess _ _ _)))
        go_wp2_with fail
        go_meet
        case rel => exact ⟨by simp [hij], HA.out.drewN _, HB.out.drewN _⟩
    case rest =>
      obtain ⟨rfl, hA, hB⟩ := hcut
      clear HA HB hcw hfw
      have HA := Lib.hid hA
      have HB := Lib.hid hB
      clear hA hB
      cases hc : (decide (i ≤ j) && L (G i))
      · have hno : i ≤ j → L dk[i]! = false := fun hij => by
          rw [HG.out] at hc
          simpa [hij] using hc
        have HNO := Lib.hid hno
        clear hno hc HG
        go_wp2_with fail
        have hU : L dk[i]! = true → j < i := fun e => by
          rcases Nat.lt_or_ge j i with h1 | h1
          · exact h1
          · rw [HNO.out h1] at e; cases e
        have HU := Lib.hid hU
        clear hU HNO
        go_loopw [11] (fun v wr => ∃ j' : Nat, v = .int .i64 (j' : Int) ∧ j' ≤ j ∧ Arr wr g off dk ∧ But1 g w wr ∧ Pt L a b i j' d dk ∧ (L dk[i]! = true → j' < i)) (fun v _ => (intOf v).toNat + 1 - i)
        case atStart => exact ⟨j, by go_num, Nat.le_refl _, HA.out, HB.out, HPT.out, HU.out⟩
        case round =>
          obtain ⟨j, rfl, hmono, hA, hB, hPT, hU⟩ := hrel
          clear HA HB HPT HU
          obtain ⟨G, hG, hcw, hfw⟩ := hA.fam hsk
          have HG := Lib.hid hG
          have HPT := Lib.hid hPT
          have HA := Lib.hid hA
          have HB := Lib.hid hB
          have b1 := hPT.ai
          have b2 := hPT.ij
          have b3 := hPT.jb
          have HU := Lib.hid hU
          clear hU
          clear hG hPT hA hB
          go_upto_region 5 with fail
          go_cut [60] from 46 to 62 (fun s wx => s = .bool (decide (i ≤ j) && !L (G j)) ∧ Arr wx g off dk ∧ But1 g w wx)
          case first =>
            by_cases hij : i ≤ j
            · have hijz : (i : Int) ≤ (j : Int) := by omega
              go_big_quiet (first | (go_at_call 85; refine Calls.quiet_of_same (sLess _ _ _)))
              go_wp2_with fail
              go_meet
              case rel => exact ⟨by rw [HL.out, ← HP.out, ← HG.out]; simp [hij], HA.out.drewN _, HB.out.drewN _⟩
            · have hijz : decide ((i : Int) ≤ (j : Int)) = false := decide_eq_false (by omega)
              go_big_quiet (first | (go_at_call 85; refine Calls.quiet_of_same (sLess _ _ _)))
              go_wp2_with fail
              go_meet
              case rel => exact ⟨by simp [hij], HA.out.drewN _, HB.out.drewN _⟩
          case rest =>
            obtain ⟨rfl, hA, hB⟩ := hcut
            clear HA HB hcw hfw
            have HA := Lib.hid hA
            have HB := Lib.hid hB
            clear hA hB
            cases hc : (decide (i ≤ j) && !L (G j))
            · have hno : i ≤ j → L dk[j]! = true := fun hij => by
                rw [HG.out] at hc
                simpa [hij] using hc
              have HNO := Lib.hid hno
              clear hno hc HG
              go_wp2_with fail
              · have hji : j < i := by assumption
                rw [HLL.out] at HPT
                obtain ⟨G, hG, hcw, hfw⟩ := HA.out.fam hsk
                have HG := Lib.hid hG
                obtain ⟨G1, hcs⟩ := HA.out.fam1 hsk j (by omega) (G a)
                clear hG
                go_region
                go_wp2_with fail
                go_ret2
                exact ⟨j, true, Go.Sort.swp dk j a, rfl, part_done HPT.out HP.out (by omega), by rw [HG.out, HG.out]; exact (HA.out.drewN 1).swp _ _ (by omega) (by omega), (HB.out.drewN 1).swp _ _ _ _⟩
              · have hji : ¬ j < i := by assumption
                have hle2 : i ≤ j := by omega
                have hj1 : L dk[j]! = true := HNO.out hle2
                have hi1 : L dk[i]! = false := by
                  cases e : L dk[i]!
                  · rfl
                  · have := HU.out e; omega
                have hlt : i < j := by
                  rcases Nat.lt_or_eq_of_le hle2 with e | e
                  · exact e
                  · rw [e, hj1] at hi1; cases hi1
                have hne : i ≠ j := by omega
                have HJ1 := Lib.hid hj1
                have HI1 := Lib.hid hi1
                clear hj1 hi1
                obtain ⟨G, hG, hcw, hfw⟩ := HA.out.fam hsk
                have HG := Lib.hid hG
                clear hG
                go_region
                go_wp2_with fail

                have hs := HPT.out.swp hlt HI1.out HJ1.out
                have HPT2 := Lib.hid hs.1
                have HP2 := Lib.hid (hs.2.trans HP.out)
                have hA2 : Arr (((wc.setCell ⟨g, off + i, none⟩ (.int .u32 (G j))).setCell ⟨g, off + j, none⟩ (.int .u32 (G i))).drewN 1) g off (Go.Sort.swp dk i j) := by
                  rw [HG.out, HG.out]
                  exact ((HA.out).swp _ _ (by omega) (by omega)).drewN 1
                have HA2 := Lib.hid hA2
                have HB2 := Lib.hid ((HB.out.swp (off + i) (off + j) (.int .u32 (G j)) (.int .u32 (G i))).drewN 1)
                have hsk2 : (Go.Sort.swp dk i j).size = n := by rw [Go.Sort.size_swp]; exact hsk
                clear hs hA2 hcw hfw HA HB HPT HP HU HNO HG
                go_loopw [10, 11] (fun v1 v2 wr => ∃ (i j : Nat) (dk : Array Int), v1 = .int .i64 (i : Int) ∧ v2 = .int .i64 (j : Int) ∧ dk.size = n ∧ Arr wr g off dk ∧ But1 g w wr ∧ Pt L a b i j d dk ∧ dk[a]! = p) (fun v1 v2 _ => (intOf v2).toNat + 1 - (intOf v1).toNat)
                case atStart => exact ⟨i + 1, j - 1, Go.Sort.swp dk i j, by go_num, by congr 1; omega, hsk2, HA2.out, HB2.out, HPT2.out, HP2.out⟩
                case round =>
                  obtain ⟨i, j, dk, rfl, rfl, hsk, hA, hB, hPT, hP⟩ := hrel
                  clear HA2 HB2 HPT2 HP2 hsk2
                  have HA := Lib.hid hA
                  have HB := Lib.hid hB
                  have HPT := Lib.hid hPT
                  have HP := Lib.hid hP
                  clear hA hB hPT hP
                  go_wp2_with fail
                  go_loopw [10] (fun v wr => ∃ i' : Nat, v = .int .i64 (i' : Int) ∧ i ≤ i' ∧ Arr wr g off dk ∧ But1 g w wr ∧ Pt L a b i' j d dk) (fun v _ => j + 1 - (intOf v).toNat)
                  case atStart => exact ⟨i, by go_num, Nat.le_refl _, HA.out, HB.out, HPT.out⟩
                  case round =>
                    obtain ⟨i, rfl, hmono, hA, hB, hPT⟩ := hrel
                    clear HA HB HPT
                    obtain ⟨G, hG, hcw, hfw⟩ := hA.fam hsk
                    have HG := Lib.hid hG
                    have HPT := Lib.hid hPT
                    have HA := Lib.hid hA
                    have HB := Lib.hid hB
                    have b1 := hPT.ai
                    have b2 := hPT.ij
                    have b3 := hPT.jb
                    clear hG hPT hA hB
                    go_upto_region 13 with fail
                    go_cut [112] from 99 to 114 (fun s wx => s = .bool (decide (i ≤ j) && L (G i)) ∧ Arr wx g off dk ∧ But1 g w wx)
                    case first =>
                      by_cases hij : i ≤ j
                      · have hijz : (i : Int) ≤ (j : Int) := by omega
                        go_big_quiet (first | (go_at_call 85; refine Calls.quiet_of_same (sLess _ _ _)))
                        go_wp2_with fail
                        go_meet
                        case rel => exact ⟨by rw [HL.out, ← HP.out, ← HG.out]; simp [hij], HA.out.drewN _, HB.out.drewN _⟩
                      · have hijz : decide ((i : Int) ≤ (j : Int)) = false := decide_eq_false (by omega)
                        go_big_quiet (first | (go_at_call 85; refine Calls.quiet_of_same (sLess _ _ _)))
                        go_wp2_with fail
                        go_meet
                        case rel => exact ⟨by simp [hij], HA.out.drewN _, HB.out.drewN _⟩
                    case rest =>
                      obtain ⟨rfl, hA, hB⟩ := hcut
                      clear HA HB hcw hfw
                      have HA := Lib.hid hA
                      have HB := Lib.hid hB
                      clear hA hB
                      cases hc : (decide (i ≤ j) && L (G i))
                      · have hno : i ≤ j → L dk[i]! = false := fun hij => by
                          rw [HG.out] at hc
                          simpa [hij] using hc
                        have HNO := Lib.hid hno
                        clear hno hc HG
                        go_wp2_with fail
                        have hU : L dk[i]! = true → j < i := fun e => by
                          rcases Nat.lt_or_ge j i with h1 | h1
                          · exact h1
                          · rw [HNO.out h1] at e; cases e
                        have HU := Lib.hid hU
                        clear hU HNO
                        go_loopw [11] (fun v wr => ∃ j' : Nat, v = .int .i64 (j' : Int) ∧ j' ≤ j ∧ Arr wr g off dk ∧ But1 g w wr ∧ Pt L a b i j' d dk ∧ (L dk[i]! = true → j' < i)) (fun v _ => (intOf v).toNat + 1 - i)
                        case atStart => exact ⟨j, by go_num, Nat.le_refl _, HA.out, HB.out, HPT.out, HU.out⟩
                        case round =>
                          obtain ⟨j, rfl, hmono, hA, hB, hPT, hU⟩ := hrel
                          clear HA HB HPT HU
                          obtain ⟨G, hG, hcw, hfw⟩ := hA.fam hsk
                          have HG := Lib.hid hG
                          have HPT := Lib.hid hPT
                          have HA := Lib.hid hA
                          have HB := Lib.hid hB
                          have b1 := hPT.ai
                          have b2 := hPT.ij
                          have b3 := hPT.jb
                          have HU := Lib.hid hU
                          clear hU
                          clear hG hPT hA hB
                          go_upto_region 15 with fail
                          go_cut [129] from 115 to 131 (fun s wx => s = .bool (decide (i ≤ j) && !L (G j)) ∧ Arr wx g off dk ∧ But1 g w wx)
                          case first =>
                            by_cases hij : i ≤ j
                            · have hijz : (i : Int) ≤ (j : Int) := by omega
                              go_big_quiet (first | (go_at_call 85; refine Calls.quiet_of_same (sLess _ _ _)))
                              go_wp2_with fail
                              go_meet
                              case rel => exact ⟨by rw [HL.out, ← HP.out, ← HG.out]; simp [hij], HA.out.drewN _, HB.out.drewN _⟩
                            · have hijz : decide ((i : Int) ≤ (j : Int)) = false := decide_eq_false (by omega)
                              go_big_quiet (first | (go_at_call 85; refine Calls.quiet_of_same (sLess _ _ _)))
                              go_wp2_with fail
                              go_meet
                              case rel => exact ⟨by simp [hij], HA.out.drewN _, HB.out.drewN _⟩
                          case rest =>
                            obtain ⟨rfl, hA, hB⟩ := hcut
                            clear HA HB hcw hfw
                            have HA := Lib.hid hA
                            have HB := Lib.hid hB
                            clear hA hB
                            cases hc : (decide (i ≤ j) && !L (G j))
                            · have hno : i ≤ j → L dk[j]! = true := fun hij => by
                                rw [HG.out] at hc
                                simpa [hij] using hc
                              have HNO := Lib.hid hno
                              clear hno hc HG
                              go_wp2_with fail
                              · have hji : j < i := by assumption
                                rw [HLL.out] at HPT
                                obtain ⟨G, hG, hcw, hfw⟩ := HA.out.fam hsk
                                have HG := Lib.hid hG
                                obtain ⟨G1, hcs⟩ := HA.out.fam1 hsk j (by omega) (G a)
                                clear hG
                                go_region
                                go_wp2_with fail
                                go_ret2
                                exact ⟨j, false, Go.Sort.swp dk j a, rfl, part_done HPT.out HP.out (by omega), by rw [HG.out, HG.out]; exact (HA.out.drewN 1).swp _ _ (by omega) (by omega), (HB.out.drewN 1).swp _ _ _ _⟩
                              · have hji : ¬ j < i := by assumption
                                have hle2 : i ≤ j := by omega
                                have hj1 : L dk[j]! = true := HNO.out hle2
                                have hi1 : L dk[i]! = false := by
                                  cases e : L dk[i]!
                                  · rfl
                                  · have := HU.out e; omega
                                have hlt : i < j := by
                                  rcases Nat.lt_or_eq_of_le hle2 with e | e
                                  · exact e
                                  · rw [e, hj1] at hi1; cases hi1
                                have hne : i ≠ j := by omega
                                have HJ1 := Lib.hid hj1
                                have HI1 := Lib.hid hi1
                                clear hj1 hi1
                                obtain ⟨G, hG, hcw, hfw⟩ := HA.out.fam hsk
                                have HG := Lib.hid hG
                                clear hG
                                go_region
                                go_wp2_with fail

                                have hs := HPT.out.swp hlt HI1.out HJ1.out
                                have HPT2 := Lib.hid hs.1
                                have HP2 := Lib.hid (hs.2.trans HP.out)
                                have hA2 : Arr (((wc.setCell ⟨g, off + i, none⟩ (.int .u32 (G j))).setCell ⟨g, off + j, none⟩ (.int .u32 (G i))).drewN 1) g off (Go.Sort.swp dk i j) := by
                                  rw [HG.out, HG.out]
                                  exact ((HA.out).swp _ _ (by omega) (by omega)).drewN 1
                                have HA2 := Lib.hid hA2
                                have HB2 := Lib.hid ((HB.out.swp (off + i) (off + j) (.int .u32 (G j)) (.int .u32 (G i))).drewN 1)
                                have hsk2 : (Go.Sort.swp dk i j).size = n := by rw [Go.Sort.size_swp]; exact hsk

                                go_roundw
                                case rel => exact ⟨i + 1, j - 1, Go.Sort.swp dk i j, by go_num, by congr 1; omega, hsk2, HA2.out, HB2.out, HPT2.out, HP2.out⟩
                                case measure => simp [intOf]; omega
                            · have hyes : i ≤ j ∧ L dk[j]! = false := by
                                rw [HG.out] at hc
                                simpa using hc
                              have HY := Lib.hid hyes
                              have hle := hyes.1
                              clear hyes hc
                              go_wp2_with fail
                              go_roundw
                              case rel => exact ⟨j - 1, by (congr 1; omega), by omega, HA.out, HB.out, HPT.out.down HY.out.1 HY.out.2, fun e => by have := HU.out e; omega⟩
                              case measure => simp [intOf]; omega
                      · have hyes : i ≤ j ∧ L dk[i]! = true := by
                          rw [HG.out] at hc
                          simpa using hc
                        have HY := Lib.hid hyes
                        have hle := hyes.1
                        clear hyes hc
                        go_wp2_with fail
                        go_roundw
                        case rel => exact ⟨i + 1, by go_num, by omega, HA.out, HB.out, HPT.out.up HY.out.1 HY.out.2⟩
                        case measure => simp [intOf]; omega
              
            · have hyes : i ≤ j ∧ L dk[j]! = false := by
                rw [HG.out] at hc
                simpa using hc
              have HY := Lib.hid hyes
              have hle := hyes.1
              clear hyes hc
              go_wp2_with fail
              go_roundw
              case rel => exact ⟨j - 1, by (congr 1; omega), by omega, HA.out, HB.out, HPT.out.down HY.out.1 HY.out.2, fun e => by have := HU.out e; omega⟩
              case measure => simp [intOf]; omega
      · have hyes : i ≤ j ∧ L dk[i]! = true := by
          rw [HG.out] at hc
          simpa using hc
        have HY := Lib.hid hyes
        have hle := hyes.1
        clear hyes hc
        go_wp2_with fail
        go_roundw
        case rel => exact ⟨i + 1, by go_num, by omega, HA.out, HB.out, HPT.out.up HY.out.1 HY.out.2⟩
        case measure => simp [intOf]; omega

set_option maxRecDepth 100000 in
set_option maxHeartbeats 8000000 in
theorem sEq (g off cap a b pivot n : Nat) (d : Array Int) (w : World) (h : Arr w g off d) (hn : d.size = n) (hap : a ≤ pivot) (hpb : pivot < b) (hb : b ≤ n) (hsz : n < 1152921504606846976) :
    Calls Tryz.prog 86 #[.slice (some ⟨g, off, none⟩) n cap, .int .i64 a, .int .i64 b, .int .i64 pivot] w fun e w' =>
      ∃ (mid : Nat) (d' : Array Int), e = .returned (.int .i64 mid) ∧ EqPost a b d d' d[pivot]! mid ∧ Arr w' g off d' ∧ But1 g w w' := by
  obtain ⟨p, hpp⟩ : ∃ p, p = d[pivot]! := ⟨_, rfl⟩
  obtain ⟨L, hL⟩ : ∃ L : Int → Bool, L = fun x => !ltI p x := ⟨_, rfl⟩
  have HL : Hid (∀ x, L x = !ltI p x) := Lib.hid (fun x => by rw [hL])
  obtain ⟨G, hG, hcw, hfw⟩ := h.fam hn
  obtain ⟨G1, hcs⟩ := h.fam1 hn a (by omega) (G pivot)
  have HG := Lib.hid hG
  have HA0 := Lib.hid h
  obtain ⟨st1, st2⟩ := pt_start (L := L) hap hpb (show b ≤ d.size by omega)
  rw [← hpp] at st2
  have ST1 := Lib.hid st1
  have HLL := Lib.hid hL
  have HPP := Lib.hid hpp
  have ST2 := Lib.hid st2
  clear hG h hpp hL st1 st2
  go_enter Tryz.func86, Tryz.ntmps86
  go_wp2_with fail
  go_region
  go_wp2_with fail
  have hA1 : Arr ((w.setCell ⟨g, off + a, none⟩ (.int .u32 (G pivot))).setCell ⟨g, off + pivot, none⟩ (.int .u32 (G a))) g off (Go.Sort.swp d a pivot) := by
    rw [HG.out, HG.out]
    exact HA0.out.swp _ _ (by omega) (by omega)
  have hB1 : But1 g w ((w.setCell ⟨g, off + a, none⟩ (.int .u32 (G pivot))).setCell ⟨g, off + pivot, none⟩ (.int .u32 (G a))) := (But1.refl g w).swp _ _ _ _
  have HA := Lib.hid (hA1.drewN 1)
  have HB := Lib.hid (hB1.drewN 1)
  have hsk : (Go.Sort.swp d a pivot).size = n := by rw [Go.Sort.size_swp]; exact hn
  clear hA1 hB1 hcw hfw hcs HG HA0
  generalize Go.Sort.swp d a pivot = dk at HA hsk ST1 ST2
  have HP := Lib.hid ST2.out
  have HPT := Lib.hid ST1.out
  clear ST1 ST2
  obtain ⟨i, hi0⟩ : ∃ i, i = a + 1 := ⟨_, rfl⟩
  obtain ⟨j, hj0⟩ : ∃ j, j = b - 1 := ⟨_, rfl⟩
  rw [← hi0, ← hj0] at HPT
  have e1 : (b : Int) - 1 = (j : Int) := by omega
  have e2 : (a : Int) + 1 = (i : Int) := by omega
  rw [e1, e2]
  clear e1 e2 hi0 hj0
  go_loopw [9, 10] (fun v1 v2 wr => ∃ (i j : Nat) (dk : Array Int), v1 = .int .i64 (i : Int) ∧ v2 = .int .i64 (j : Int) ∧ dk.size = n ∧ Arr wr g off dk ∧ But1 g w wr ∧ Pt L a b i j d dk ∧ dk[a]! = p) (fun v1 v2 _ => (intOf v2).toNat + 1 - (intOf v1).toNat)
  case atStart => exact ⟨i, j, dk, rfl, rfl, hsk, HA.out, HB.out, HPT.out, HP.out⟩
  case round =>
    obtain ⟨i, j, dk, rfl, rfl, hsk, hA, hB, hPT, hP⟩ := hrel
    clear HA HB HPT HP
    have HA := Lib.hid hA
    have HB := Lib.hid hB
    have HPT := Lib.hid hPT
    have HP := Lib.hid hP
    clear hA hB hPT hP
    go_wp2_with fail
    go_loopw [9] (fun v wr => ∃ i' : Nat, v = .int .i64 (i' : Int) ∧ i ≤ i' ∧ Arr wr g off dk ∧ But1 g w wr ∧ Pt L a b i' j d dk) (fun v _ => j + 1 - (intOf v).toNat)
    case atStart => exact ⟨i, by go_num, Nat.le_refl _, HA.out, HB.out, HPT.out⟩
    case round =>
      obtain ⟨i, rfl, hmono, hA, hB, hPT⟩ := hrel
      clear HA HB HPT
      obtain ⟨G, hG, hcw, hfw⟩ := hA.fam hsk
      have HG := Lib.hid hG
      have HPT := Lib.hid hPT
      have HA := Lib.hid hA
      have HB := Lib.hid hB
      have b1 := hPT.ai
      have b2 := hPT.ij
      have b3 := hPT.jb
      clear hG hPT hA hB
      go_upto_region 3 with fail
      go_cut [43] from 29 to 45 (fun s wx => s = .bool (decide (i ≤ j) && L (G i)) ∧ Arr wx g off dk ∧ But1 g w wx)
      case first =>
        by_cases hij : i ≤ j
        · have hijz : (i : Int) ≤ (j : Int) := by omega
          go_big_quiet (first | (go_at_call 85; refine Calls.quiet_of_same (sLess _ _ _)))
          go_wp2_with fail
          go_meet
          case rel => exact ⟨by rw [HL.out, ← HP.out, ← HG.out]; simp [hij], HA.out.drewN _, HB.out.drewN _⟩
        · have hijz : decide ((i : Int) ≤ (j : Int)) = false := decide_eq_false (by omega)
          go_big_quiet (first | (go_at_call 85; refine Calls.quiet_of_same (sLess _ _ _)))
          go_wp2_with fail
          go_meet
          case rel => exact ⟨by simp [hij], HA.out.drewN _, HB.out.drewN _⟩
      case rest =>
        obtain ⟨rfl, hA, hB⟩ := hcut
        clear HA HB hcw hfw
        have HA := Lib.hid hA
        have HB := Lib.hid hB
        clear hA hB
        cases hc : (decide (i ≤ j) && L (G i))
        · have hno : i ≤ j → L dk[i]! = false := fun hij => by
            rw [HG.out] at hc
            simpa [hij] using hc
          have HNO := Lib.hid hno
          clear hno hc HG
          go_wp2_with fail
          have hU : L dk[i]! = true → j < i := fun e => by
            rcases Nat.lt_or_ge j i with h1 | h1
            · exact h1
            · rw [HNO.out h1] at e; cases e
          have HU := Lib.hid hU
          clear hU HNO
          go_loopw [10] (fun v wr => ∃ j' : Nat, v = .int .i64 (j' : Int) ∧ j' ≤ j ∧ Arr wr g off dk ∧ But1 g w wr ∧ Pt L a b i j' d dk ∧ (L dk[i]! = true → j' < i)) (fun v _ => (intOf v).toNat + 1 - i)
          case atStart => exact ⟨j, by go_num, Nat.le_refl _, HA.out, HB.out, HPT.out, HU.out⟩
          case round =>
            obtain ⟨j, rfl, hmono, hA, hB, hPT, hU⟩ := hrel
            clear HA HB HPT HU
            obtain ⟨G, hG, hcw, hfw⟩ := hA.fam hsk
            have HG := Lib.hid hG
            have HPT := Lib.hid hPT
            have HA := Lib.hid hA
            have HB := Lib.hid hB
            have b1 := hPT.ai
            have b2 := hPT.ij
            have b3 := hPT.jb
            have HU := Lib.hid hU
            clear hU
            clear hG hPT hA hB
            go_upto_region 5 with fail
            go_cut [59] from 46 to 61 (fun s wx => s = .bool (decide (i ≤ j) && !L (G j)) ∧ Arr wx g off dk ∧ But1 g w wx)
            case first =>
              by_cases hij : i ≤ j
              · have hijz : (i : Int) ≤ (j : Int) := by omega
                go_big_quiet (first | (go_at_call 85; refine Calls.quiet_of_same (sLess _ _ _)))
                go_wp2_with fail
                go_meet
                case rel => exact ⟨by rw [HL.out, ← HP.out, ← HG.out]; simp [hij], HA.out.drewN _, HB.out.drewN _⟩
              · have hijz : decide ((i : Int) ≤ (j : Int)) = false := decide_eq_false (by omega)
                go_big_quiet (first | (go_at_call 85; refine Calls.quiet_of_same (sLess _ _ _)))
                go_wp2_with fail
                go_meet
                case rel => exact ⟨by simp [hij], HA.out.drewN _, HB.out.drewN _⟩
            case rest =>
              obtain ⟨rfl, hA, hB⟩ := hcut
              clear HA HB hcw hfw
              have HA := Lib.hid hA
              have HB := Lib.hid hB
              clear hA hB
              cases hc : (decide (i ≤ j) && !L (G j))
              · have hno : i ≤ j → L dk[j]! = true := fun hij => by
                  rw [HG.out] at hc
                  simpa [hij] using hc
                have HNO := Lib.hid hno
                clear hno hc HG
                go_wp2_with fail
                · have hji : j < i := by assumption
                  rw [HLL.out] at HPT
                  go_ret
                  exact ⟨i, dk, rfl, HPP.out ▸ eq_done HPT.out HP.out (by omega), HA.out, HB.out⟩
                · have hji : ¬ j < i := by assumption
                  have hle2 : i ≤ j := by omega
                  have hj1 : L dk[j]! = true := HNO.out hle2
                  have hi1 : L dk[i]! = false := by
                    cases e : L dk[i]!
                    · rfl
                    · have := HU.out e; omega
                  have hlt : i < j := by
                    rcases Nat.lt_or_eq_of_le hle2 with e | e
                    · exact e
                    · rw [e, hj1] at hi1; cases hi1
                  have hne : i ≠ j := by omega
                  have HJ1 := Lib.hid hj1
                  have HI1 := Lib.hid hi1
                  clear hj1 hi1
                  obtain ⟨G, hG, hcw, hfw⟩ := HA.out.fam hsk
                  have HG := Lib.hid hG
                  clear hG
                  go_region
                  go_wp2_with fail

                  have hs := HPT.out.swp hlt HI1.out HJ1.out
                  have HPT2 := Lib.hid hs.1
                  have HP2 := Lib.hid (hs.2.trans HP.out)
                  have hA2 : Arr (((wc.setCell ⟨g, off + i, none⟩ (.int .u32 (G j))).setCell ⟨g, off + j, none⟩ (.int .u32 (G i))).drewN 1) g off (Go.Sort.swp dk i j) := by
                    rw [HG.out, HG.out]
                    exact ((HA.out).swp _ _ (by omega) (by omega)).drewN 1
                  have HA2 := Lib.hid hA2
                  have HB2 := Lib.hid ((HB.out.swp (off + i) (off + j) (.int .u32 (G j)) (.int .u32 (G i))).drewN 1)
                  have hsk2 : (Go.Sort.swp dk i j).size = n := by rw [Go.Sort.size_swp]; exact hsk

                  go_roundw
                  case rel => exact ⟨i + 1, j - 1, Go.Sort.swp dk i j, by go_num, by congr 1; omega, hsk2, HA2.out, HB2.out, HPT2.out, HP2.out⟩
                  case measure => simp [intOf]; omega
              · have hyes : i ≤ j ∧ L dk[j]! = false := by
                  rw [HG.out] at hc
                  simpa using hc
                have HY := Lib.hid hyes
                have hle := hyes.1
                clear hyes hc
                go_wp2_with fail
                go_roundw
                case rel => exact ⟨j - 1, by (congr 1; omega), by omega, HA.out, HB.out, HPT.out.down HY.out.1 HY.out.2, fun e => by have := HU.out e; omega⟩
                case measure => simp [intOf]; omega
        · have hyes : i ≤ j ∧ L dk[i]! = true := by
            rw [HG.out] at hc
            simpa using hc
          have HY := Lib.hid hyes
          have hle := hyes.1
          clear hyes hc
          go_wp2_with fail
          go_roundw
          case rel => exact ⟨i + 1, by go_num, by omega, HA.out, HB.out, HPT.out.up HY.out.1 HY.out.2⟩
          case measure => simp [intOf]; omega
end Go.Proofs.YtllpmepmgnnoaaaGreat
