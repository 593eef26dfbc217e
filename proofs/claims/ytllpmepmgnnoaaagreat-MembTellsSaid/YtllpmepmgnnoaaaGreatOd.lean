/- The library's sort: pattern-defeating quicksort. -/
import Derived.Test.YtllpmepmgnnoaaaGreatOc
import Derived.Test.YtllpmepmgnnoaaaGreatOa
import Derived.Test.YtllpmepmgnnoaaaGreatNy
namespace Go.Proofs.YtllpmepmgnnoaaaGreat
set_option linter.unusedVariables false
open Go.RowKit
open Go.Sort (PermIn permIn_refl)

set_option maxRecDepth 1000000 in
set_option maxHeartbeats 8000000 in
theorem sPdq : ∀ (N g off cap a b lim n : Nat) (d : Array Int) (w : World), b - a < N → Arr w g off d → d.size = n → a ≤ b → b ≤ n → n < 1152921504606846976 → lim < 1152921504606846976 → Blw a b d →
    Calls Tryz.prog 66 #[.slice (some ⟨g, off, none⟩) n cap, .int .i64 a, .int .i64 b, .int .i64 lim] w fun e w' =>
      e = .returned (.tuple #[]) ∧ ∃ d', (PermIn a b d d' ∧ Srt a b d') ∧ Arr w' g off d' ∧ But1 g w w' := by
  intro N
  induction N with
  | zero => intro _ _ _ _ _ _ _ _ _ h; exact absurd h (Nat.not_lt_zero _)
  | succ N ih =>
    intro g off cap a b lim n d w hN h hn hab hb hsz hlim hbl
    have HA := Lib.hid h
    have HL := Lib.hid (left_start hbl)
    have IH := Lib.hid ih
    clear h hbl ih
    go_enter Tryz.func66, Tryz.ntmps66
    go_wp2_with fail
    go_loopg [1, 2, 3, 8, 9] (b - a) (fun k s1 s2 s3 s8 s9 wr => ∃ (a' b' lim' : Nat) (wb wp : Bool) (dk : Array Int), s1 = .int .i64 a' ∧ s2 = .int .i64 b' ∧ s3 = .int .i64 lim' ∧ s8 = .bool wb ∧ s9 = .bool wp ∧
      a' ≤ b' ∧ b' ≤ n ∧ b' - a' ≤ k ∧ k ≤ b - a ∧ lim' ≤ lim ∧ dk.size = n ∧ Left a b a' b' d dk ∧ Arr wr g off dk ∧ But1 g w wr)
    case atStart => exact ⟨a, b, lim, true, true, d, rfl, rfl, rfl, rfl, rfl, hab, hb, Nat.le_refl _, Nat.le_refl _, Nat.le_refl _, hn, HL.out, HA.out, But1.refl _ _⟩
    case round =>
      obtain ⟨a', b', lim', wb, wp, dk, rfl, rfl, rfl, rfl, rfl, hab', hb', hk, hkN, hl', hsk, hLF, hA, hB⟩ := hrel
      clear HA HL
      have HL := Lib.hid hLF
      have HA := Lib.hid hA
      have HB := Lib.hid hB
      clear hLF hA hB
      by_cases h12 : b' - a' ≤ 12
      · have h12z : (b' : Int) - (a' : Int) ≤ 12 := by omega
        go_wp2_with fail
        refine (sIns g off cap a' b' n dk _ HA.out hsk hab' hb' (by omega)).mono ?_
        rintro e w1 ⟨rfl, hA1, hB1⟩
        have HA1 := Lib.hid hA1
        have HB1 := Lib.hid (HB.out.trans hB1)
        clear hA1 hB1
        go_wp2_with fail
        (try simp only [Exit.inBlock, Exit.then]); refine bodyPost_ret (results_none rfl _ _ _) rfl ?_
        have hi := Go.Sort.insertionSort_holds ltI_swo dk a' b' hab' (by omega)
        exact ⟨rfl, _, left_done HL.out hi.1 hi.2, HA1.out, HB1.out⟩
      · have h12z : ¬ ((b' : Int) - (a' : Int) ≤ 12) := by omega
        by_cases hl0 : lim' = 0
        · subst hl0
          go_wp2_with fail
          refine (sHeap g off cap a' b' n dk _ HA.out hsk hab' hb' hsz).mono ?_
          rintro e w1 ⟨rfl, hA1, hB1⟩
          have HA1 := Lib.hid hA1
          have HB1 := Lib.hid (HB.out.trans hB1)
          clear hA1 hB1
          go_wp2_with fail
          (try simp only [Exit.inBlock, Exit.then]); refine bodyPost_ret (results_none rfl _ _ _) rfl ?_
          have hi := Go.Sort.heapSort_holds ltI_swo dk a' b' hab' (by omega)
          exact ⟨rfl, _, left_done HL.out hi.1 hi.2, HA1.out, HB1.out⟩
        · have hl0z : ¬ ((lim' : Int) = 0) := by omega
          go_upto_if 35 with fail
          go_cut [3] from 19 to 133 (fun s3 wc => ∃ (l1 : Nat) (d1 : Array Int), s3 = .int .i64 l1 ∧ l1 ≤ lim ∧ d1.size = n ∧ Left a b a' b' d d1 ∧ Arr wc g off d1 ∧ But1 g w wc)
          case first =>
            cases wb
            · go_wp2_with fail
              refine (sBrk g off cap a' b' n dk _ HA.out hsk (by omega) hb' hsz).mono ?_
              rintro e w1 ⟨rfl, d1, hp1, hA1, hB1⟩
              have HX := Lib.hid (⟨lim' - 1, d1, by congr 1; omega, by omega, hp1.1.trans hsk, left_perm HL.out (by omega) hp1, hA1, HB.out.trans hB1⟩ : ∃ (l1 : Nat) (d1 : Array Int), Value.int .i64 ((lim' : Int) - 1) = .int .i64 l1 ∧ l1 ≤ lim ∧ d1.size = n ∧ Left a b a' b' d d1 ∧ Arr w1 g off d1 ∧ But1 g w w1)
              clear hp1 hA1 hB1
              go_wp2_with fail
              go_meet
              case rel => exact HX.out
            · go_wp2_with fail
              go_meet
              case rel => exact ⟨lim', dk, rfl, hl', hsk, HL.out, HA.out, HB.out⟩
          case rest =>
            obtain ⟨l1, d1, rfl, hl1, hs1, hLF, hA, hB⟩ := hcut
            clear HL HA HB
            have HL := Lib.hid hLF
            have HA := Lib.hid hA
            have HB := Lib.hid hB
            clear hLF hA hB
            go_upto_if 50 with (go_at_call 82; refine (sPiv g off cap a' b' n d1 _ HA.out hs1 (by omega) hb' hsz).mono ?_; rintro e w2 ⟨x, hint, rfl, hx, hb2⟩; have HB2 := Lib.hid hb2; clear hb2)
            have HA2 := Lib.hid (HA.out.below HB2.out HA.out.lt)
            have HB3 := Lib.hid (HB.out.trans (But1.of_below HB2.out))
            clear HA HB HB2
            go_cut [11, 12] from 19 to 133 (fun s11 s12 wc => ∃ (x : Nat) (hint : Int) (d2 : Array Int), s11 = .int .i64 x ∧ s12 = .int .i64 hint ∧ (a' ≤ x ∧ x < b') ∧ d2.size = n ∧ Left a b a' b' d d2 ∧ Arr wc g off d2 ∧ But1 g w wc)
            case first =>
              by_cases hh : hint = 2
              · subst hh
                go_wp2_with fail
                refine (sRev g off cap a' b' n d1 _ HA2.out hs1 hab' hb' hsz).mono ?_
                rintro e w3 ⟨rfl, d2, hp2, hA1, hB1⟩
                have HX := Lib.hid (⟨b' - 1 - (x - a'), 1, d2, by congr 1; omega, rfl, by omega, hp2.1.trans hs1, left_perm HL.out (by omega) hp2, hA1, HB3.out.trans hB1⟩ : ∃ (x' : Nat) (hint : Int) (d2 : Array Int), Value.int .i64 ((b' : Int) - 1 - ((x : Int) - (a' : Int))) = .int .i64 x' ∧ Value.int .i64 1 = .int .i64 hint ∧ (a' ≤ x' ∧ x' < b') ∧ d2.size = n ∧ Left a b a' b' d d2 ∧ Arr w3 g off d2 ∧ But1 g w w3)
                clear hp2 hA1 hB1
                go_wp2_with fail
                go_meet
                case rel => exact HX.out
              · have hhb : (hint == (2 : Int)) = false := by simp [hh]
                have HH := Lib.hid hh
                clear hh
                go_wp2_with fail
                go_meet
                case rel => exact ⟨x, hint, d1, rfl, rfl, hx, hs1, HL.out, HA2.out, HB3.out⟩
            case rest =>
              obtain ⟨x, hint, d2, rfl, rfl, hx, hs2, hLF, hA, hB⟩ := hcut
              clear HL HA2 HB3
              have HL := Lib.hid hLF
              have HA := Lib.hid hA
              have HB := Lib.hid hB
              clear hLF hA hB
              go_upto_region 15 with fail
              go_cut [12, 68] from 19 to 133 (fun s12 s68 wx => s12 = .int .i64 hint ∧ (∃ c : Bool, s68 = .bool c) ∧ wx = wc)
              case first =>
                cases wb <;> cases wp <;> (go_wp2_with fail; go_meet; exact ⟨rfl, ⟨_, rfl⟩, rfl⟩)
              case rest =>
                obtain ⟨rfl, ⟨c, rfl⟩, rfl⟩ := hcut
                go_upto_if 68 with fail
                go_cut [] from 19 to 133 (fun wx => ∃ d3 : Array Int, d3.size = n ∧ Left a b a' b' d d3 ∧ Arr wx g off d3 ∧ But1 g w wx)
                case first =>
                  cases c
                  · go_wp2_with fail
                    go_meet
                    case rel => exact ⟨d2, hs2, HL.out, HA.out, HB.out⟩
                  · go_wp2_with fail
                    refine (sPartial g off cap a' b' n d2 _ HA.out hs2 (by omega) hb' hsz (blw_iff.1 HL.out.1)).mono ?_
                    rintro e w3 ⟨ok, d3, rfl, hp3, hsrt, hA1, hB1⟩
                    have HX := Lib.hid (⟨d3, hp3.1.trans hs2, left_perm HL.out (by omega) hp3, hA1, HB.out.trans hB1⟩ : ∃ d3 : Array Int, d3.size = n ∧ Left a b a' b' d d3 ∧ Arr w3 g off d3 ∧ But1 g w w3)
                    have HY : Hid (ok = true → ∃ d', (PermIn a b d d' ∧ Srt a b d') ∧ Arr w3 g off d' ∧ But1 g w w3) := Lib.hid (fun e => ⟨d3, left_done HL.out hp3 (hsrt e), hA1, HB.out.trans hB1⟩)
                    clear hp3 hsrt hA1 hB1
                    cases ok
                    · go_wp2_with fail
                      go_meet
                      case rel => exact HX.out
                    · go_wp2_with fail
                      (try simp only [Exit.inBlock, Exit.then]); refine bodyPost_ret (results_none rfl _ _ _) rfl ?_
                      exact ⟨rfl, HY.out (by first | rfl | trivial)⟩
                case rest =>
                  obtain ⟨d3, hs3, hLF, hA, hB⟩ := hcut
                  clear HL HA HB
                  obtain ⟨G, hG, hcw, hfw⟩ := hA.fam hs3
                  have HG := Lib.hid hG
                  have HL := Lib.hid hLF
                  have HA := Lib.hid hA
                  have HB := Lib.hid hB
                  clear hG hLF hA hB
                  go_upto_region 17 with fail
                  go_cut [87] from 19 to 133 (fun s87 wx => s87 = .bool (decide (a' > 0) && !ltI (G (a' - 1)) (G x)) ∧ Arr wx g off d3 ∧ But1 g w wx)
                  case first =>
                    rcases Nat.eq_zero_or_pos a' with ha0 | ha0
                    · have ha0z : decide ((a' : Int) > 0) = false := decide_eq_false (by omega)
                      go_big_quiet (first | (go_at_call 85; refine Calls.quiet_of_same (sLess _ _ _)))
                      go_wp2_with fail
                      go_meet
                      case rel => exact ⟨by simp [ha0], HA.out.drewN _, HB.out.drewN _⟩
                    · have ha0z : (a' : Int) > 0 := by omega
                      go_big_quiet (first | (go_at_call 85; refine Calls.quiet_of_same (sLess _ _ _)))
                      go_wp2_with fail
                      go_meet
                      case rel => exact ⟨by simp [ha0], HA.out.drewN _, HB.out.drewN _⟩
                  case rest =>
                    obtain ⟨rfl, hA, hB⟩ := hcut
                    clear HA HB hcw hfw
                    have HA := Lib.hid hA
                    have HB := Lib.hid hB
                    clear hA hB
                    cases h87 : (decide (a' > 0) && !ltI (G (a' - 1)) (G x))
                    · clear h87
                      go_upto_if 113 with (go_at_call 87; refine (sPart g off cap a' b' x n d3 _ HA.out hs3 hx.1 hx.2 hb' hsz).mono ?_; rintro e w7 ⟨mid, ap, d4, rfl, hP, hA1, hB1⟩; have m1 := hP.1; have m2 := hP.2.1; have HA1 := Lib.hid hA1; have HB1 := Lib.hid (HB.out.trans hB1); have HP := Lib.hid hP; clear hA1 hB1 hP)
                      have hs4 : d4.size = n := HP.out.2.2.1.1.trans hs3
                      have B4 : Blw a' b' d4 := HL.out.1.perm (by omega) HP.out.2.2.1
                      by_cases h4 : mid - a' < b' - mid
                      · have h4z : (mid : Int) - (a' : Int) < (b' : Int) - (mid : Int) := by omega
                        have BL := Lib.hid (B4.mono (show mid ≤ b' by omega))
                        clear B4
                        go_wp2_with fail
                        refine (IH.out g off cap a' mid l1 n d4 _ (by omega) HA1.out hs4 m1 (by omega) hsz (by omega) BL.out).mono ?_
                        rintro e w8 ⟨rfl, d5, ⟨p5, s5⟩, hA2, hB2⟩
                        have HL5 := Lib.hid (left_trans HL.out (step_left HP.out (by omega) p5 s5))
                        have HA5 := Lib.hid hA2
                        have HB5 := Lib.hid (HB1.out.trans hB2)
                        have hs5 : d5.size = n := p5.1.trans hs4
                        clear p5 s5 hA2 hB2
                        go_wp2_with fail
                        go_roundg (b' - (mid + 1))
                        case measure => omega
                        case rel =>
                          have q1 : mid + 1 ≤ b' := by omega
                          have q2 : b' - (mid + 1) ≤ b - a := by omega
                          exact ⟨mid + 1, b', l1, _, ap, d5, by simp, rfl, rfl, rfl, rfl, q1, hb', Nat.le_refl _, q2, hl1, hs5, HL5.out, HA5.out, HB5.out⟩
                      · have h4z : ¬ ((mid : Int) - (a' : Int) < (b' : Int) - (mid : Int)) := by omega
                        have BR : Hid (Blw (mid + 1) b' d4) := Lib.hid (.inr fun i i1 i2 => by rw [Nat.add_sub_cancel]; exact HP.out.2.2.2.2 i (by omega) i2)
                        clear B4
                        go_wp2_with fail
                        refine (IH.out g off cap (mid + 1) b' l1 n d4 _ (by omega) HA1.out hs4 (by omega) hb' hsz (by omega) BR.out).mono ?_
                        rintro e w8 ⟨rfl, d5, ⟨p5, s5⟩, hA2, hB2⟩
                        have HL5 := Lib.hid (left_trans HL.out (step_right HP.out (by omega) HL.out.1 p5 s5))
                        have HA5 := Lib.hid hA2
                        have HB5 := Lib.hid (HB1.out.trans hB2)
                        have hs5 : d5.size = n := p5.1.trans hs4
                        clear p5 s5 hA2 hB2
                        go_wp2_with fail
                        go_roundg (mid - a')
                        case measure => omega
                        case rel =>
                          have q1 : mid ≤ n := by omega
                          have q2 : mid - a' ≤ b - a := by omega
                          exact ⟨a', mid, l1, _, ap, d5, rfl, rfl, rfl, rfl, rfl, m1, q1, Nat.le_refl _, q2, hl1, hs5, HL5.out, HA5.out, HB5.out⟩
                    · have h87' : 0 < a' ∧ d3[x]! ≤ d3[a' - 1]! := by
                        simp only [Bool.and_eq_true, decide_eq_true_eq, Bool.not_eq_true', HG.out] at h87
                        refine ⟨h87.1, ?_⟩
                        have := h87.2
                        simp [Go.Sort.ltInt] at this
                        omega
                      have hlow : ∀ i, a' ≤ i → i < b' → d3[x]! ≤ d3[i]! := fun i i1 i2 => by
                        rcases HL.out.1 with e | e
                        · omega
                        · have := e i i1 i2
                          omega
                      have HW := Lib.hid hlow
                      clear h87 hlow h87'
                      go_wp2_with fail
                      refine (sEq g off cap a' b' x n d3 _ HA.out hs3 hx.1 hx.2 hb' hsz).mono ?_
                      rintro e w7 ⟨mid, d4, rfl, hE, hA1, hB1⟩
                      have m1 := hE.1
                      have m2 := hE.2.1
                      have HL4 := Lib.hid (left_trans HL.out (step_eq hE (by omega) HW.out))
                      have HA4 := Lib.hid hA1
                      have HB4 := Lib.hid (HB.out.trans hB1)
                      have hs4 : d4.size = n := hE.2.2.1.1.trans hs3
                      clear hE hA1 hB1
                      go_wp2_with fail
                      go_roundg (b' - mid)
                      case measure => omega
                      case rel =>
                        have q2 : b' - mid ≤ b - a := by omega
                        exact ⟨mid, b', l1, wb, wp, d4, rfl, rfl, rfl, rfl, rfl, m2, hb', Nat.le_refl _, q2, hl1, hs4, HL4.out, HA4.out, HB4.out⟩
end Go.Proofs.YtllpmepmgnnoaaaGreat
