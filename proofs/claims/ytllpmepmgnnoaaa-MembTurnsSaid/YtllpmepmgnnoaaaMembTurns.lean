/- The law MembTurns: every call returns true, and its arguments read behind the call as before it. Condition: none but the row's own. -/
import Derived.Test.YtllpmepmgnnoaaaY14
namespace Go.Proofs.Ytllpmepmgnnoaaa.membTurns
set_option linter.unusedVariables false
open Go.ChangeShapes Go.WideShapes Go.ChangeAt Go.RowKit
open Go.ChangeMaps (open_string shut_string)

set_option linter.unusedSimpArgs false in
set_option maxRecDepth 100000 in
set_option maxHeartbeats 16000000 in
theorem walk (w : World) (kp la g : Int) (ex : Bool) (left : Int) (a : Option Addr) (c : Nat) (s : List Hd) (b : Option Addr) (cb : Nat) (xs : List Int) (x : Int) (hs : Hs w a s) (hn : List.length s ≤ 1125899906842624) (hnil : a = none → c = 0) (hg : 0 ≤ g ∧ g ≤ 4294967295) (ha : As w b xs) (hna : List.length xs ≤ 1125899906842624) (hnila : b = none → cb = 0) :
    Calls Try.prog 7 #[.agg #[.int .i64 kp, .int .i64 la, .int .u32 g, .bool ex, .int .i64 left, .slice a (List.length s) c, .slice b (List.length xs) cb, .int .u32 x]] w fun e w' => e = .returned (.bool true) ∧ Below w.heap.size w w' := by
  obtain ⟨n, hn1⟩ : ∃ n, s.length = n := ⟨_, rfl⟩
  obtain ⟨ln, hln⟩ : ∃ ln, xs.length = ln := ⟨_, rfl⟩
  rw [hn1] at hn ⊢
  rw [hln] at hna ⊢
  have HX := Lib.hid hn1
  have HL := Lib.hid hln
  have HNIL := Lib.hid hnil
  have HNILA := Lib.hid hnila
  have HG := Lib.hid hg
  obtain ⟨w1, hw1⟩ : ∃ w1, w1 = ((w.alloc (.cells #[.int .i64 kp, .int .i64 la, .int .u32 g, .bool ex, .int .i64 left, .slice a n c, .slice b ln cb, .int .u32 x] 69)).alloc (.cells #[.int .i64 kp, .int .i64 la] 45)).alloc (.cells #[.int .u32 g, .bool ex, .int .i64 left, .slice a n c] 48) := ⟨_, rfl⟩
  obtain ⟨tc, mv, hb⟩ := mkLaw w _ _ kp la g ex left a n c w1 hw1
  have BB := Lib.hid hb
  have TT := Lib.hid tc
  have VM := Lib.hid mv
  have SM := Lib.hid (hs.below hb)
  have SL := Lib.hid (ha.below hb)
  clear hn1 hln hnil hnila hg tc mv hb hs ha
  go_enter Try.func7, Try.ntmps7
  go_wp2_with fail
  rw [← hw1]
  clear hw1
  refine (mShown w1).mono ?_
  rintro e w101 ⟨rfl, hb⟩
  have BB := Lib.hid (BB.out.trans (hb.mono BB.out.size))
  have SM := Lib.hid (SM.out.below hb)
  have SL := Lib.hid (SL.out.below hb)
  have TT := Lib.hid (TT.out.below hb)
  have VM := Lib.hid (VM.out.below hb VM.out.lt)
  clear hb
  obtain ⟨TT0, TT1⟩ := TT.out
  obtain ⟨VM0, VM1, VM2, VM3, -⟩ := VM.out.cells
  go_wp2_with fail
  refine (rMay8 kp la _).mono ?_
  rintro e w102 ⟨rfl, hb⟩
  clear TT0 TT1 VM0 VM1 VM2 VM3
  have BB := Lib.hid (BB.out.trans (hb.mono BB.out.size))
  have SM := Lib.hid (SM.out.below hb)
  have SL := Lib.hid (SL.out.below hb)
  have TT := Lib.hid (TT.out.below hb)
  have VM := Lib.hid (VM.out.below hb VM.out.lt)
  clear hb
  by_cases q1 : mayP kp la
  · rw [decide_eq_true q1]
    have MAY := Lib.hid q1
    clear q1
    obtain ⟨TT0, TT1⟩ := TT.out
    obtain ⟨VM0, VM1, VM2, VM3, -⟩ := VM.out.cells
    go_wp2_with fail
    refine (rRight8 g ex left a n c s _ HX.out SM.out (by omega)).mono ?_
    rintro e w103 ⟨rfl, hb⟩
    clear TT0 TT1 VM0 VM1 VM2 VM3
    have BB := Lib.hid (BB.out.trans (hb.mono BB.out.size))
    have SM := Lib.hid (SM.out.below hb)
    have SL := Lib.hid (SL.out.below hb)
    have TT := Lib.hid (TT.out.below hb)
    have VM := Lib.hid (VM.out.below hb VM.out.lt)
    clear hb
    by_cases q2 : okM g ex left s
    · rw [decide_eq_true q2]
      have OK := Lib.hid q2
      have TB := Lib.hid (may_T MAY.out q2 HG.out)
      have hn64 : n ≤ 64 := by have := q2.2.1; rw [HX.out] at this; exact this
      clear q2
      by_cases q3 : ln ≤ 200
      · have q3' : decide ((200 : Int) < (ln : Int)) = false := decide_eq_false (by omega)
        obtain ⟨TT0, TT1⟩ := TT.out
        obtain ⟨VM0, VM1, VM2, VM3, -⟩ := VM.out.cells
        go_wp2_with fail
        refine (rHas b ln cb xs x _ HL.out (by omega) SL.out).mono ?_
        rintro e w104 ⟨rfl, hw⟩
        clear TT0 TT1 VM0 VM1 VM2 VM3
        subst hw
        obtain ⟨bx, hbx⟩ : ∃ bx, decide (x ∈ xs) = bx := ⟨_, rfl⟩
        rw [hbx]
        have BX := Lib.hid hbx
        clear hbx
        obtain ⟨TT0, TT1⟩ := TT.out
        obtain ⟨VM0, VM1, VM2, VM3, -⟩ := VM.out.cells
        go_wp2_with fail
        refine (mHear 2 kp la g ex left a n c s b ln cb xs _ HX.out hn64 SM.out HNIL.out OK.out.inc HL.out q3 SL.out HNILA.out TB.out).mono ?_
        rintro e w105 ⟨⟨aA, cA, aaA, ccA, rsA, rfl, hA, mA, qA⟩, hb⟩
        clear TT0 TT1 VM0 VM1 VM2 VM3
        have BB := Lib.hid (BB.out.trans (hb.mono BB.out.size))
        have SM := Lib.hid (SM.out.below hb)
        have SL := Lib.hid (SL.out.below hb)
        have TT := Lib.hid (TT.out.below hb)
        have VM := Lib.hid (VM.out.below hb VM.out.lt)
        clear hb
        have HRA := Lib.hid (hear_ok 2 xs MAY.out OK.out)
        have SSA := Lib.hid hA.1
        have MMA := Lib.hid mA
        have QQA := Lib.hid qA
        clear hA mA qA
        have FA1 : Hid ((hearP g kp la ex left s 2 xs).er = 0 → (hearP g kp la ex left s 2 xs).ex = true ∧ (x ∉ xs → wantsP (hearP g kp la ex left s 2 xs).ex (hearP g kp la ex left s 2 xs).s x = true)) := Lib.hid (fun he => turns_isEx MAY.out OK.out x he)
        obtain ⟨rA, hrA⟩ : ∃ r, hearP g kp la ex left s 2 xs = r := ⟨_, rfl⟩
        rw [hrA] at HRA SSA MMA FA1 ⊢
        clear hrA
        obtain ⟨xA, lA, sA, qqA, eA⟩ := rA
        simp only at HRA SSA MMA FA1 ⊢
        obtain ⟨nA, hnnA⟩ : ∃ nn, sA.length = nn := ⟨_, rfl⟩
        have NNA := Lib.hid hnnA
        rw [hnnA]
        clear hnnA
        obtain ⟨nqA, hnqA⟩ : ∃ nn, List.length rsA = nn := ⟨_, rfl⟩
        have NQA := Lib.hid hnqA
        rw [hnqA]
        clear hnqA
        have hbn := bel1 w105 (.cells #[.int .u32 g, .bool xA, .int .i64 lA, .slice aA nA cA] 48)
        have VAn := MV.new w105 g xA lA aA nA cA
        have BB := Lib.hid (BB.out.trans (hbn.mono BB.out.size))
        have SM := Lib.hid (SM.out.below hbn)
        have SL := Lib.hid (SL.out.below hbn)
        have SSA := Lib.hid (SSA.out.below hbn)
        have QQA := Lib.hid (QQA.out.below hbn)
        have TT := Lib.hid (TT.out.below hbn)
        have VM := Lib.hid (VM.out.below hbn VM.out.lt)
        clear hbn
        have VA := Lib.hid VAn
        clear VAn
        obtain ⟨TT0, TT1⟩ := TT.out
        obtain ⟨VM0, VM1, VM2, VM3, -⟩ := VM.out.cells
        obtain ⟨VA0, VA1, VA2, VA3, -⟩ := VA.out.cells
        go_wp2_with fail
        generalize w105.alloc (.cells #[.int .u32 g, .bool xA, .int .i64 lA, .slice aA nA cA] 48) = w106 at *
        refine (mHear 4 kp la g ex left a n c s b ln cb xs _ HX.out hn64 SM.out HNIL.out OK.out.inc HL.out q3 SL.out HNILA.out TB.out).mono ?_
        rintro e w107 ⟨⟨aB, cB, aaB, ccB, rsB, rfl, hB, mB, qB⟩, hb⟩
        clear TT0 TT1 VM0 VM1 VM2 VM3 VA0 VA1 VA2 VA3
        have BB := Lib.hid (BB.out.trans (hb.mono BB.out.size))
        have SM := Lib.hid (SM.out.below hb)
        have SL := Lib.hid (SL.out.below hb)
        have SSA := Lib.hid (SSA.out.below hb)
        have QQA := Lib.hid (QQA.out.below hb)
        have TT := Lib.hid (TT.out.below hb)
        have VM := Lib.hid (VM.out.below hb VM.out.lt)
        have VA := Lib.hid (VA.out.below hb VA.out.lt)
        clear hb
        have HRB := Lib.hid (hear_ok 4 xs MAY.out OK.out)
        have SSB := Lib.hid hB.1
        have MMB := Lib.hid mB
        have QQB := Lib.hid qB
        clear hB mB qB
        have FB1 : Hid ((hearP g kp la ex left s 4 xs).er = 0 → (hearP g kp la ex left s 4 xs).ex = true ∧ (x ∉ xs → wantsP (hearP g kp la ex left s 4 xs).ex (hearP g kp la ex left s 4 xs).s x = true)) := Lib.hid (fun he => turns_toEx MAY.out OK.out x he)
        obtain ⟨rB, hrB⟩ : ∃ r, hearP g kp la ex left s 4 xs = r := ⟨_, rfl⟩
        rw [hrB] at HRB SSB MMB FB1 ⊢
        clear hrB
        obtain ⟨xB, lB, sB, qqB, eB⟩ := rB
        simp only at HRB SSB MMB FB1 ⊢
        obtain ⟨nB, hnnB⟩ : ∃ nn, sB.length = nn := ⟨_, rfl⟩
        have NNB := Lib.hid hnnB
        rw [hnnB]
        clear hnnB
        obtain ⟨nqB, hnqB⟩ : ∃ nn, List.length rsB = nn := ⟨_, rfl⟩
        have NQB := Lib.hid hnqB
        rw [hnqB]
        clear hnqB
        have hbn := bel1 w107 (.cells #[.int .u32 g, .bool xB, .int .i64 lB, .slice aB nB cB] 48)
        have VBn := MV.new w107 g xB lB aB nB cB
        have BB := Lib.hid (BB.out.trans (hbn.mono BB.out.size))
        have SM := Lib.hid (SM.out.below hbn)
        have SL := Lib.hid (SL.out.below hbn)
        have SSA := Lib.hid (SSA.out.below hbn)
        have QQA := Lib.hid (QQA.out.below hbn)
        have SSB := Lib.hid (SSB.out.below hbn)
        have QQB := Lib.hid (QQB.out.below hbn)
        have TT := Lib.hid (TT.out.below hbn)
        have VM := Lib.hid (VM.out.below hbn VM.out.lt)
        have VA := Lib.hid (VA.out.below hbn VA.out.lt)
        clear hbn
        have VB := Lib.hid VBn
        clear VBn
        obtain ⟨TT0, TT1⟩ := TT.out
        obtain ⟨VM0, VM1, VM2, VM3, -⟩ := VM.out.cells
        obtain ⟨VA0, VA1, VA2, VA3, -⟩ := VA.out.cells
        obtain ⟨VB0, VB1, VB2, VB3, -⟩ := VB.out.cells
        go_wp2_with fail
        generalize w107.alloc (.cells #[.int .u32 g, .bool xB, .int .i64 lB, .slice aB nB cB] 48) = w108 at *
        refine (mHear 3 kp la g ex left a n c s b ln cb xs _ HX.out hn64 SM.out HNIL.out OK.out.inc HL.out q3 SL.out HNILA.out TB.out).mono ?_
        rintro e w109 ⟨⟨aC, cC, aaC, ccC, rsC, rfl, hC, mC, qC⟩, hb⟩
        clear TT0 TT1 VM0 VM1 VM2 VM3 VA0 VA1 VA2 VA3 VB0 VB1 VB2 VB3
        have BB := Lib.hid (BB.out.trans (hb.mono BB.out.size))
        have SM := Lib.hid (SM.out.below hb)
        have SL := Lib.hid (SL.out.below hb)
        have SSA := Lib.hid (SSA.out.below hb)
        have QQA := Lib.hid (QQA.out.below hb)
        have SSB := Lib.hid (SSB.out.below hb)
        have QQB := Lib.hid (QQB.out.below hb)
        have TT := Lib.hid (TT.out.below hb)
        have VM := Lib.hid (VM.out.below hb VM.out.lt)
        have VA := Lib.hid (VA.out.below hb VA.out.lt)
        have VB := Lib.hid (VB.out.below hb VB.out.lt)
        clear hb
        have HRC := Lib.hid (hear_ok 3 xs MAY.out OK.out)
        have SSC := Lib.hid hC.1
        have MMC := Lib.hid mC
        have QQC := Lib.hid qC
        clear hC mC qC
        have FC1 : Hid ((hearP g kp la ex left s 3 xs).er ≠ 0 → (hearP g kp la ex left s 3 xs).er = 7) := Lib.hid (fun he => toIn_er he)
        have FC2 : Hid ((hearP g kp la ex left s 3 xs).er = 0 → (ex = true → (hearP g kp la ex left s 3 xs).q ≠ []) ∧ tkE (hearP g kp la ex left s 3 xs).ex (hearP g kp la ex left s 3 xs).left la = false ∧ (x ∉ xs → wantsP (tkE (hearP g kp la ex left s 3 xs).ex (hearP g kp la ex left s 3 xs).left la) (tkS (hearP g kp la ex left s 3 xs).ex (hearP g kp la ex left s 3 xs).left (hearP g kp la ex left s 3 xs).s la) x = false) ∧ (x ∈ xs → kp ≠ la → wantsP (tkE (hearP g kp la ex left s 3 xs).ex (hearP g kp la ex left s 3 xs).left la) (tkS (hearP g kp la ex left s 3 xs).ex (hearP g kp la ex left s 3 xs).left (hearP g kp la ex left s 3 xs).s la) x = true)) := Lib.hid (fun he => turns_toIn MAY.out OK.out x he)
        obtain ⟨rC, hrC⟩ : ∃ r, hearP g kp la ex left s 3 xs = r := ⟨_, rfl⟩
        rw [hrC] at HRC SSC MMC FC1 FC2 ⊢
        clear hrC
        obtain ⟨xC, lC, sC, qqC, eC⟩ := rC
        simp only at HRC SSC MMC FC1 FC2 ⊢
        obtain ⟨nC, hnnC⟩ : ∃ nn, sC.length = nn := ⟨_, rfl⟩
        have NNC := Lib.hid hnnC
        rw [hnnC]
        clear hnnC
        obtain ⟨nqC, hnqC⟩ : ∃ nn, List.length rsC = nn := ⟨_, rfl⟩
        have NQC := Lib.hid hnqC
        rw [hnqC]
        clear hnqC
        have hbn := bel1 w109 (.cells #[.int .u32 g, .bool xC, .int .i64 lC, .slice aC nC cC] 48)
        have VCn := MV.new w109 g xC lC aC nC cC
        have BB := Lib.hid (BB.out.trans (hbn.mono BB.out.size))
        have SM := Lib.hid (SM.out.below hbn)
        have SL := Lib.hid (SL.out.below hbn)
        have SSA := Lib.hid (SSA.out.below hbn)
        have QQA := Lib.hid (QQA.out.below hbn)
        have SSB := Lib.hid (SSB.out.below hbn)
        have QQB := Lib.hid (QQB.out.below hbn)
        have SSC := Lib.hid (SSC.out.below hbn)
        have QQC := Lib.hid (QQC.out.below hbn)
        have TT := Lib.hid (TT.out.below hbn)
        have VM := Lib.hid (VM.out.below hbn VM.out.lt)
        have VA := Lib.hid (VA.out.below hbn VA.out.lt)
        have VB := Lib.hid (VB.out.below hbn VB.out.lt)
        clear hbn
        have VC := Lib.hid VCn
        clear VCn
        clear QQA QQB QQC MMA MMB NQA NQB SM SL HNIL HNILA HL HX q3 hna
        cases bx
        · by_cases zA : eA = 0
          · subst zA
            have FA2 := Lib.hid (FA1.out rfl)
            obtain rfl : xA = true := FA2.out.1
            obtain ⟨VA0, VA1, VA2, VA3, -⟩ := VA.out.cells
            go_wp2_with fail
            generalize w109.alloc (.cells #[.int .u32 g, .bool xC, .int .i64 lC, .slice aC nC cC] 48) = w110 at *
            have FA3 := Lib.hid (FA2.out.2 (of_decide_eq_false BX.out))
            refine (mWants g true lA aA nA cA sA x _ NNA.out (by have := HRA.out.2.1; rw [NNA.out] at this; omega) SSA.out HRA.out.inc HRA.out.nn).mono ?_
            rintro e w111 ⟨rfl, hb⟩
            clear VA0 VA1 VA2 VA3
            have BB := Lib.hid (BB.out.trans (hb.mono BB.out.size))
            have SSA := Lib.hid (SSA.out.below hb)
            have SSB := Lib.hid (SSB.out.below hb)
            have SSC := Lib.hid (SSC.out.below hb)
            have TT := Lib.hid (TT.out.below hb)
            have VM := Lib.hid (VM.out.below hb VM.out.lt)
            have VA := Lib.hid (VA.out.below hb VA.out.lt)
            have VB := Lib.hid (VB.out.below hb VB.out.lt)
            have VC := Lib.hid (VC.out.below hb VC.out.lt)
            clear hb
            rw [FA3.out]
            by_cases zB : eB = 0
            · subst zB
              have FB2 := Lib.hid (FB1.out rfl)
              obtain rfl : xB = true := FB2.out.1
              obtain ⟨VB0, VB1, VB2, VB3, -⟩ := VB.out.cells
              go_wp2_with fail
              have FB3 := Lib.hid (FB2.out.2 (of_decide_eq_false BX.out))
              refine (mWants g true lB aB nB cB sB x _ NNB.out (by have := HRB.out.2.1; rw [NNB.out] at this; omega) SSB.out HRB.out.inc HRB.out.nn).mono ?_
              rintro e w112 ⟨rfl, hb⟩
              clear VB0 VB1 VB2 VB3
              have BB := Lib.hid (BB.out.trans (hb.mono BB.out.size))
              have SSA := Lib.hid (SSA.out.below hb)
              have SSB := Lib.hid (SSB.out.below hb)
              have SSC := Lib.hid (SSC.out.below hb)
              have TT := Lib.hid (TT.out.below hb)
              have VM := Lib.hid (VM.out.below hb VM.out.lt)
              have VA := Lib.hid (VA.out.below hb VA.out.lt)
              have VB := Lib.hid (VB.out.below hb VB.out.lt)
              have VC := Lib.hid (VC.out.below hb VC.out.lt)
              clear hb
              rw [FB3.out]
              by_cases zC : eC = 0
              · subst zC
                have FC3 := Lib.hid (FC2.out rfl)
                clear FA1 FB1
                obtain ⟨TT0, TT1⟩ := TT.out
                obtain ⟨VC0, VC1, VC2, VC3, -⟩ := VC.out.cells
                go_wp2_with fail
                refine (mTick g xC lC aC nC cC sC la _ NNC.out (by have := HRC.out.2.1; rw [NNC.out] at this; omega) SSC.out (fun y hy => by have := (HRC.out.lb.weak (lo_nn _)) y hy; omega) (by have := HRC.out.left; omega) (by have := TB.out; omega)).mono ?_
                rintro e w113 ⟨⟨aD, cD, rfl, hD⟩, hb⟩
                clear TT0 TT1 VC0 VC1 VC2 VC3
                have BB := Lib.hid (BB.out.trans (hb.mono BB.out.size))
                have SSC := Lib.hid (SSC.out.below hb)
                have TT := Lib.hid (TT.out.below hb)
                have VM := Lib.hid (VM.out.below hb VM.out.lt)
                have VC := Lib.hid (VC.out.below hb VC.out.lt)
                clear hb
                have hmx : max la 0 = la := by have := TB.out; omega
                rw [hmx] at hD ⊢
                rw [FC3.out.2.1]
                have HRD := Lib.hid (tick_ok HRC.out (show 0 ≤ la by have := TB.out; omega))
                rw [FC3.out.2.1] at HRD
                have SSD := Lib.hid hD.1
                clear hD hmx
                obtain ⟨lD, hlD⟩ : ∃ l, max (lC - la) 0 = l := ⟨_, rfl⟩
                obtain ⟨sD, hsD⟩ : ∃ l, tkS xC lC sC la = l := ⟨_, rfl⟩
                have FD1 := Lib.hid FC3.out.2.2
                rw [FC3.out.2.1, hsD] at FD1
                rw [hlD, hsD] at HRD ⊢
                rw [hsD] at SSD
                clear hlD hsD
                obtain ⟨nD, hnnD⟩ : ∃ nn, sD.length = nn := ⟨_, rfl⟩
                have NND := Lib.hid hnnD
                rw [hnnD]
                clear hnnD
                have hbn := bel1 w113 (.cells #[.int .u32 g, .bool false, .int .i64 lD, .slice aD nD cD] 48)
                have VDn := MV.new w113 g false lD aD nD cD
                have BB := Lib.hid (BB.out.trans (hbn.mono BB.out.size))
                have SSC := Lib.hid (SSC.out.below hbn)
                have SSD := Lib.hid (SSD.out.below hbn)
                have TT := Lib.hid (TT.out.below hbn)
                have VM := Lib.hid (VM.out.below hbn VM.out.lt)
                have VC := Lib.hid (VC.out.below hbn VC.out.lt)
                clear hbn
                have VD := Lib.hid VDn
                clear VDn
                cases ex
                · obtain ⟨TT0, TT1⟩ := TT.out
                  obtain ⟨VM0, VM1, VM2, VM3, -⟩ := VM.out.cells
                  obtain ⟨VD0, VD1, VD2, VD3, -⟩ := VD.out.cells
                  go_wp2_with fail
                  generalize w113.alloc (.cells #[.int .u32 g, .bool false, .int .i64 lD, .slice aD nD cD] 48) = w114 at *
                  have FD3 := Lib.hid (FD1.out.1 (of_decide_eq_false BX.out))
                  refine (mWants g false lD aD nD cD sD x _ NND.out (by have := HRD.out.2.1; rw [NND.out] at this; omega) SSD.out HRD.out.inc HRD.out.nn).mono ?_
                  rintro e w115 ⟨rfl, hb⟩
                  clear TT0 TT1 VM0 VM1 VM2 VM3 VD0 VD1 VD2 VD3
                  have BB := Lib.hid (BB.out.trans (hb.mono BB.out.size))
                  have SSC := Lib.hid (SSC.out.below hb)
                  have SSD := Lib.hid (SSD.out.below hb)
                  have TT := Lib.hid (TT.out.below hb)
                  have VM := Lib.hid (VM.out.below hb VM.out.lt)
                  have VC := Lib.hid (VC.out.below hb VC.out.lt)
                  have VD := Lib.hid (VD.out.below hb VD.out.lt)
                  clear hb
                  rw [FD3.out]
                  obtain ⟨TT0, TT1⟩ := TT.out
                  obtain ⟨VM0, VM1, VM2, VM3, -⟩ := VM.out.cells
                  obtain ⟨VD0, VD1, VD2, VD3, -⟩ := VD.out.cells
                  go_wp2_with fail
                  go_ret
                  exact ⟨rfl, BB.out⟩
                · have hq0 : ((nqC : Int) == 0) = false := by
                    have h1 := FC3.out.1 rfl
                    have h2 := congrArg List.length MMC.out
                    rw [List.length_map, NQC.out] at h2
                    have h3 : qqC.length ≠ 0 := fun e => h1 (List.eq_nil_of_length_eq_zero e)
                    exact beq_eq_false_iff_ne.2 (by omega)
                  obtain ⟨TT0, TT1⟩ := TT.out
                  obtain ⟨VM0, VM1, VM2, VM3, -⟩ := VM.out.cells
                  obtain ⟨VD0, VD1, VD2, VD3, -⟩ := VD.out.cells
                  go_wp2_with fail
                  generalize w113.alloc (.cells #[.int .u32 g, .bool false, .int .i64 lD, .slice aD nD cD] 48) = w114 at *
                  have FD3 := Lib.hid (FD1.out.1 (of_decide_eq_false BX.out))
                  refine (mWants g false lD aD nD cD sD x _ NND.out (by have := HRD.out.2.1; rw [NND.out] at this; omega) SSD.out HRD.out.inc HRD.out.nn).mono ?_
                  rintro e w115 ⟨rfl, hb⟩
                  clear TT0 TT1 VM0 VM1 VM2 VM3 VD0 VD1 VD2 VD3
                  have BB := Lib.hid (BB.out.trans (hb.mono BB.out.size))
                  have SSC := Lib.hid (SSC.out.below hb)
                  have SSD := Lib.hid (SSD.out.below hb)
                  have TT := Lib.hid (TT.out.below hb)
                  have VM := Lib.hid (VM.out.below hb VM.out.lt)
                  have VC := Lib.hid (VC.out.below hb VC.out.lt)
                  have VD := Lib.hid (VD.out.below hb VD.out.lt)
                  clear hb
                  rw [FD3.out]
                  obtain ⟨TT0, TT1⟩ := TT.out
                  obtain ⟨VM0, VM1, VM2, VM3, -⟩ := VM.out.cells
                  obtain ⟨VD0, VD1, VD2, VD3, -⟩ := VD.out.cells
                  go_wp2_with fail
                  go_ret
                  exact ⟨rfl, BB.out⟩
              · obtain rfl : eC = 7 := FC1.out zC
                clear zC
                go_wp2_with fail
                go_ret
                exact ⟨rfl, BB.out⟩
            · have zB' : (eB == 0) = false := by simpa using zB
              clear zB
              by_cases zC : eC = 0
              · subst zC
                have FC3 := Lib.hid (FC2.out rfl)
                clear FA1 FB1
                obtain ⟨TT0, TT1⟩ := TT.out
                obtain ⟨VC0, VC1, VC2, VC3, -⟩ := VC.out.cells
                go_wp2_with fail
                refine (mTick g xC lC aC nC cC sC la _ NNC.out (by have := HRC.out.2.1; rw [NNC.out] at this; omega) SSC.out (fun y hy => by have := (HRC.out.lb.weak (lo_nn _)) y hy; omega) (by have := HRC.out.left; omega) (by have := TB.out; omega)).mono ?_
                rintro e w112 ⟨⟨aD, cD, rfl, hD⟩, hb⟩
                clear TT0 TT1 VC0 VC1 VC2 VC3
                have BB := Lib.hid (BB.out.trans (hb.mono BB.out.size))
                have SSC := Lib.hid (SSC.out.below hb)
                have TT := Lib.hid (TT.out.below hb)
                have VM := Lib.hid (VM.out.below hb VM.out.lt)
                have VC := Lib.hid (VC.out.below hb VC.out.lt)
                clear hb
                have hmx : max la 0 = la := by have := TB.out; omega
                rw [hmx] at hD ⊢
                rw [FC3.out.2.1]
                have HRD := Lib.hid (tick_ok HRC.out (show 0 ≤ la by have := TB.out; omega))
                rw [FC3.out.2.1] at HRD
                have SSD := Lib.hid hD.1
                clear hD hmx
                obtain ⟨lD, hlD⟩ : ∃ l, max (lC - la) 0 = l := ⟨_, rfl⟩
                obtain ⟨sD, hsD⟩ : ∃ l, tkS xC lC sC la = l := ⟨_, rfl⟩
                have FD1 := Lib.hid FC3.out.2.2
                rw [FC3.out.2.1, hsD] at FD1
                rw [hlD, hsD] at HRD ⊢
                rw [hsD] at SSD
                clear hlD hsD
                obtain ⟨nD, hnnD⟩ : ∃ nn, sD.length = nn := ⟨_, rfl⟩
                have NND := Lib.hid hnnD
                rw [hnnD]
                clear hnnD
                have hbn := bel1 w112 (.cells #[.int .u32 g, .bool false, .int .i64 lD, .slice aD nD cD] 48)
                have VDn := MV.new w112 g false lD aD nD cD
                have BB := Lib.hid (BB.out.trans (hbn.mono BB.out.size))
                have SSC := Lib.hid (SSC.out.below hbn)
                have SSD := Lib.hid (SSD.out.below hbn)
                have TT := Lib.hid (TT.out.below hbn)
                have VM := Lib.hid (VM.out.below hbn VM.out.lt)
                have VC := Lib.hid (VC.out.below hbn VC.out.lt)
                clear hbn
                have VD := Lib.hid VDn
                clear VDn
                cases ex
                · obtain ⟨TT0, TT1⟩ := TT.out
                  obtain ⟨VM0, VM1, VM2, VM3, -⟩ := VM.out.cells
                  obtain ⟨VD0, VD1, VD2, VD3, -⟩ := VD.out.cells
                  go_wp2_with fail
                  generalize w112.alloc (.cells #[.int .u32 g, .bool false, .int .i64 lD, .slice aD nD cD] 48) = w113 at *
                  have FD3 := Lib.hid (FD1.out.1 (of_decide_eq_false BX.out))
                  refine (mWants g false lD aD nD cD sD x _ NND.out (by have := HRD.out.2.1; rw [NND.out] at this; omega) SSD.out HRD.out.inc HRD.out.nn).mono ?_
                  rintro e w114 ⟨rfl, hb⟩
                  clear TT0 TT1 VM0 VM1 VM2 VM3 VD0 VD1 VD2 VD3
                  have BB := Lib.hid (BB.out.trans (hb.mono BB.out.size))
                  have SSC := Lib.hid (SSC.out.below hb)
                  have SSD := Lib.hid (SSD.out.below hb)
                  have TT := Lib.hid (TT.out.below hb)
                  have VM := Lib.hid (VM.out.below hb VM.out.lt)
                  have VC := Lib.hid (VC.out.below hb VC.out.lt)
                  have VD := Lib.hid (VD.out.below hb VD.out.lt)
                  clear hb
                  rw [FD3.out]
                  obtain ⟨TT0, TT1⟩ := TT.out
                  obtain ⟨VM0, VM1, VM2, VM3, -⟩ := VM.out.cells
                  obtain ⟨VD0, VD1, VD2, VD3, -⟩ := VD.out.cells
                  go_wp2_with fail
                  go_ret
                  exact ⟨rfl, BB.out⟩
                · have hq0 : ((nqC : Int) == 0) = false := by
                    have h1 := FC3.out.1 rfl
                    have h2 := congrArg List.length MMC.out
                    rw [List.length_map, NQC.out] at h2
                    have h3 : qqC.length ≠ 0 := fun e => h1 (List.eq_nil_of_length_eq_zero e)
                    exact beq_eq_false_iff_ne.2 (by omega)
                  obtain ⟨TT0, TT1⟩ := TT.out
                  obtain ⟨VM0, VM1, VM2, VM3, -⟩ := VM.out.cells
                  obtain ⟨VD0, VD1, VD2, VD3, -⟩ := VD.out.cells
                  go_wp2_with fail
                  generalize w112.alloc (.cells #[.int .u32 g, .bool false, .int .i64 lD, .slice aD nD cD] 48) = w113 at *
                  have FD3 := Lib.hid (FD1.out.1 (of_decide_eq_false BX.out))
                  refine (mWants g false lD aD nD cD sD x _ NND.out (by have := HRD.out.2.1; rw [NND.out] at this; omega) SSD.out HRD.out.inc HRD.out.nn).mono ?_
                  rintro e w114 ⟨rfl, hb⟩
                  clear TT0 TT1 VM0 VM1 VM2 VM3 VD0 VD1 VD2 VD3
                  have BB := Lib.hid (BB.out.trans (hb.mono BB.out.size))
                  have SSC := Lib.hid (SSC.out.below hb)
                  have SSD := Lib.hid (SSD.out.below hb)
                  have TT := Lib.hid (TT.out.below hb)
                  have VM := Lib.hid (VM.out.below hb VM.out.lt)
                  have VC := Lib.hid (VC.out.below hb VC.out.lt)
                  have VD := Lib.hid (VD.out.below hb VD.out.lt)
                  clear hb
                  rw [FD3.out]
                  obtain ⟨TT0, TT1⟩ := TT.out
                  obtain ⟨VM0, VM1, VM2, VM3, -⟩ := VM.out.cells
                  obtain ⟨VD0, VD1, VD2, VD3, -⟩ := VD.out.cells
                  go_wp2_with fail
                  go_ret
                  exact ⟨rfl, BB.out⟩
              · obtain rfl : eC = 7 := FC1.out zC
                clear zC
                go_wp2_with fail
                go_ret
                exact ⟨rfl, BB.out⟩
          · have zA' : (eA == 0) = false := by simpa using zA
            clear zA
            by_cases zB : eB = 0
            · subst zB
              have FB2 := Lib.hid (FB1.out rfl)
              obtain rfl : xB = true := FB2.out.1
              obtain ⟨VB0, VB1, VB2, VB3, -⟩ := VB.out.cells
              go_wp2_with fail
              generalize w109.alloc (.cells #[.int .u32 g, .bool xC, .int .i64 lC, .slice aC nC cC] 48) = w110 at *
              have FB3 := Lib.hid (FB2.out.2 (of_decide_eq_false BX.out))
              refine (mWants g true lB aB nB cB sB x _ NNB.out (by have := HRB.out.2.1; rw [NNB.out] at this; omega) SSB.out HRB.out.inc HRB.out.nn).mono ?_
              rintro e w111 ⟨rfl, hb⟩
              clear VB0 VB1 VB2 VB3
              have BB := Lib.hid (BB.out.trans (hb.mono BB.out.size))
              have SSA := Lib.hid (SSA.out.below hb)
              have SSB := Lib.hid (SSB.out.below hb)
              have SSC := Lib.hid (SSC.out.below hb)
              have TT := Lib.hid (TT.out.below hb)
              have VM := Lib.hid (VM.out.below hb VM.out.lt)
              have VA := Lib.hid (VA.out.below hb VA.out.lt)
              have VB := Lib.hid (VB.out.below hb VB.out.lt)
              have VC := Lib.hid (VC.out.below hb VC.out.lt)
              clear hb
              rw [FB3.out]
              by_cases zC : eC = 0
              · subst zC
                have FC3 := Lib.hid (FC2.out rfl)
                clear FA1 FB1
                obtain ⟨TT0, TT1⟩ := TT.out
                obtain ⟨VC0, VC1, VC2, VC3, -⟩ := VC.out.cells
                go_wp2_with fail
                refine (mTick g xC lC aC nC cC sC la _ NNC.out (by have := HRC.out.2.1; rw [NNC.out] at this; omega) SSC.out (fun y hy => by have := (HRC.out.lb.weak (lo_nn _)) y hy; omega) (by have := HRC.out.left; omega) (by have := TB.out; omega)).mono ?_
                rintro e w112 ⟨⟨aD, cD, rfl, hD⟩, hb⟩
                clear TT0 TT1 VC0 VC1 VC2 VC3
                have BB := Lib.hid (BB.out.trans (hb.mono BB.out.size))
                have SSC := Lib.hid (SSC.out.below hb)
                have TT := Lib.hid (TT.out.below hb)
                have VM := Lib.hid (VM.out.below hb VM.out.lt)
                have VC := Lib.hid (VC.out.below hb VC.out.lt)
                clear hb
                have hmx : max la 0 = la := by have := TB.out; omega
                rw [hmx] at hD ⊢
                rw [FC3.out.2.1]
                have HRD := Lib.hid (tick_ok HRC.out (show 0 ≤ la by have := TB.out; omega))
                rw [FC3.out.2.1] at HRD
                have SSD := Lib.hid hD.1
                clear hD hmx
                obtain ⟨lD, hlD⟩ : ∃ l, max (lC - la) 0 = l := ⟨_, rfl⟩
                obtain ⟨sD, hsD⟩ : ∃ l, tkS xC lC sC la = l := ⟨_, rfl⟩
                have FD1 := Lib.hid FC3.out.2.2
                rw [FC3.out.2.1, hsD] at FD1
                rw [hlD, hsD] at HRD ⊢
                rw [hsD] at SSD
                clear hlD hsD
                obtain ⟨nD, hnnD⟩ : ∃ nn, sD.length = nn := ⟨_, rfl⟩
                have NND := Lib.hid hnnD
                rw [hnnD]
                clear hnnD
                have hbn := bel1 w112 (.cells #[.int .u32 g, .bool false, .int .i64 lD, .slice aD nD cD] 48)
                have VDn := MV.new w112 g false lD aD nD cD
                have BB := Lib.hid (BB.out.trans (hbn.mono BB.out.size))
                have SSC := Lib.hid (SSC.out.below hbn)
                have SSD := Lib.hid (SSD.out.below hbn)
                have TT := Lib.hid (TT.out.below hbn)
                have VM := Lib.hid (VM.out.below hbn VM.out.lt)
                have VC := Lib.hid (VC.out.below hbn VC.out.lt)
                clear hbn
                have VD := Lib.hid VDn
                clear VDn
                cases ex
                · obtain ⟨TT0, TT1⟩ := TT.out
                  obtain ⟨VM0, VM1, VM2, VM3, -⟩ := VM.out.cells
                  obtain ⟨VD0, VD1, VD2, VD3, -⟩ := VD.out.cells
                  go_wp2_with fail
                  generalize w112.alloc (.cells #[.int .u32 g, .bool false, .int .i64 lD, .slice aD nD cD] 48) = w113 at *
                  have FD3 := Lib.hid (FD1.out.1 (of_decide_eq_false BX.out))
                  refine (mWants g false lD aD nD cD sD x _ NND.out (by have := HRD.out.2.1; rw [NND.out] at this; omega) SSD.out HRD.out.inc HRD.out.nn).mono ?_
                  rintro e w114 ⟨rfl, hb⟩
                  clear TT0 TT1 VM0 VM1 VM2 VM3 VD0 VD1 VD2 VD3
                  have BB := Lib.hid (BB.out.trans (hb.mono BB.out.size))
                  have SSC := Lib.hid (SSC.out.below hb)
                  have SSD := Lib.hid (SSD.out.below hb)
                  have TT := Lib.hid (TT.out.below hb)
                  have VM := Lib.hid (VM.out.below hb VM.out.lt)
                  have VC := Lib.hid (VC.out.below hb VC.out.lt)
                  have VD := Lib.hid (VD.out.below hb VD.out.lt)
                  clear hb
                  rw [FD3.out]
                  obtain ⟨TT0, TT1⟩ := TT.out
                  obtain ⟨VM0, VM1, VM2, VM3, -⟩ := VM.out.cells
                  obtain ⟨VD0, VD1, VD2, VD3, -⟩ := VD.out.cells
                  go_wp2_with fail
                  go_ret
                  exact ⟨rfl, BB.out⟩
                · have hq0 : ((nqC : Int) == 0) = false := by
                    have h1 := FC3.out.1 rfl
                    have h2 := congrArg List.length MMC.out
                    rw [List.length_map, NQC.out] at h2
                    have h3 : qqC.length ≠ 0 := fun e => h1 (List.eq_nil_of_length_eq_zero e)
                    exact beq_eq_false_iff_ne.2 (by omega)
                  obtain ⟨TT0, TT1⟩ := TT.out
                  obtain ⟨VM0, VM1, VM2, VM3, -⟩ := VM.out.cells
                  obtain ⟨VD0, VD1, VD2, VD3, -⟩ := VD.out.cells
                  go_wp2_with fail
                  generalize w112.alloc (.cells #[.int .u32 g, .bool false, .int .i64 lD, .slice aD nD cD] 48) = w113 at *
                  have FD3 := Lib.hid (FD1.out.1 (of_decide_eq_false BX.out))
                  refine (mWants g false lD aD nD cD sD x _ NND.out (by have := HRD.out.2.1; rw [NND.out] at this; omega) SSD.out HRD.out.inc HRD.out.nn).mono ?_
                  rintro e w114 ⟨rfl, hb⟩
                  clear TT0 TT1 VM0 VM1 VM2 VM3 VD0 VD1 VD2 VD3
                  have BB := Lib.hid (BB.out.trans (hb.mono BB.out.size))
                  have SSC := Lib.hid (SSC.out.below hb)
                  have SSD := Lib.hid (SSD.out.below hb)
                  have TT := Lib.hid (TT.out.below hb)
                  have VM := Lib.hid (VM.out.below hb VM.out.lt)
                  have VC := Lib.hid (VC.out.below hb VC.out.lt)
                  have VD := Lib.hid (VD.out.below hb VD.out.lt)
                  clear hb
                  rw [FD3.out]
                  obtain ⟨TT0, TT1⟩ := TT.out
                  obtain ⟨VM0, VM1, VM2, VM3, -⟩ := VM.out.cells
                  obtain ⟨VD0, VD1, VD2, VD3, -⟩ := VD.out.cells
                  go_wp2_with fail
                  go_ret
                  exact ⟨rfl, BB.out⟩
              · obtain rfl : eC = 7 := FC1.out zC
                clear zC
                go_wp2_with fail
                go_ret
                exact ⟨rfl, BB.out⟩
            · have zB' : (eB == 0) = false := by simpa using zB
              clear zB
              by_cases zC : eC = 0
              · subst zC
                have FC3 := Lib.hid (FC2.out rfl)
                clear FA1 FB1
                obtain ⟨TT0, TT1⟩ := TT.out
                obtain ⟨VC0, VC1, VC2, VC3, -⟩ := VC.out.cells
                go_wp2_with fail
                generalize w109.alloc (.cells #[.int .u32 g, .bool xC, .int .i64 lC, .slice aC nC cC] 48) = w110 at *
                refine (mTick g xC lC aC nC cC sC la _ NNC.out (by have := HRC.out.2.1; rw [NNC.out] at this; omega) SSC.out (fun y hy => by have := (HRC.out.lb.weak (lo_nn _)) y hy; omega) (by have := HRC.out.left; omega) (by have := TB.out; omega)).mono ?_
                rintro e w111 ⟨⟨aD, cD, rfl, hD⟩, hb⟩
                clear TT0 TT1 VC0 VC1 VC2 VC3
                have BB := Lib.hid (BB.out.trans (hb.mono BB.out.size))
                have SSC := Lib.hid (SSC.out.below hb)
                have TT := Lib.hid (TT.out.below hb)
                have VM := Lib.hid (VM.out.below hb VM.out.lt)
                have VC := Lib.hid (VC.out.below hb VC.out.lt)
                clear hb
                have hmx : max la 0 = la := by have := TB.out; omega
                rw [hmx] at hD ⊢
                rw [FC3.out.2.1]
                have HRD := Lib.hid (tick_ok HRC.out (show 0 ≤ la by have := TB.out; omega))
                rw [FC3.out.2.1] at HRD
                have SSD := Lib.hid hD.1
                clear hD hmx
                obtain ⟨lD, hlD⟩ : ∃ l, max (lC - la) 0 = l := ⟨_, rfl⟩
                obtain ⟨sD, hsD⟩ : ∃ l, tkS xC lC sC la = l := ⟨_, rfl⟩
                have FD1 := Lib.hid FC3.out.2.2
                rw [FC3.out.2.1, hsD] at FD1
                rw [hlD, hsD] at HRD ⊢
                rw [hsD] at SSD
                clear hlD hsD
                obtain ⟨nD, hnnD⟩ : ∃ nn, sD.length = nn := ⟨_, rfl⟩
                have NND := Lib.hid hnnD
                rw [hnnD]
                clear hnnD
                have hbn := bel1 w111 (.cells #[.int .u32 g, .bool false, .int .i64 lD, .slice aD nD cD] 48)
                have VDn := MV.new w111 g false lD aD nD cD
                have BB := Lib.hid (BB.out.trans (hbn.mono BB.out.size))
                have SSC := Lib.hid (SSC.out.below hbn)
                have SSD := Lib.hid (SSD.out.below hbn)
                have TT := Lib.hid (TT.out.below hbn)
                have VM := Lib.hid (VM.out.below hbn VM.out.lt)
                have VC := Lib.hid (VC.out.below hbn VC.out.lt)
                clear hbn
                have VD := Lib.hid VDn
                clear VDn
                cases ex
                · obtain ⟨TT0, TT1⟩ := TT.out
                  obtain ⟨VM0, VM1, VM2, VM3, -⟩ := VM.out.cells
                  obtain ⟨VD0, VD1, VD2, VD3, -⟩ := VD.out.cells
                  go_wp2_with fail
                  generalize w111.alloc (.cells #[.int .u32 g, .bool false, .int .i64 lD, .slice aD nD cD] 48) = w112 at *
                  have FD3 := Lib.hid (FD1.out.1 (of_decide_eq_false BX.out))
                  refine (mWants g false lD aD nD cD sD x _ NND.out (by have := HRD.out.2.1; rw [NND.out] at this; omega) SSD.out HRD.out.inc HRD.out.nn).mono ?_
                  rintro e w113 ⟨rfl, hb⟩
                  clear TT0 TT1 VM0 VM1 VM2 VM3 VD0 VD1 VD2 VD3
                  have BB := Lib.hid (BB.out.trans (hb.mono BB.out.size))
                  have SSC := Lib.hid (SSC.out.below hb)
                  have SSD := Lib.hid (SSD.out.below hb)
                  have TT := Lib.hid (TT.out.below hb)
                  have VM := Lib.hid (VM.out.below hb VM.out.lt)
                  have VC := Lib.hid (VC.out.below hb VC.out.lt)
                  have VD := Lib.hid (VD.out.below hb VD.out.lt)
                  clear hb
                  rw [FD3.out]
                  obtain ⟨TT0, TT1⟩ := TT.out
                  obtain ⟨VM0, VM1, VM2, VM3, -⟩ := VM.out.cells
                  obtain ⟨VD0, VD1, VD2, VD3, -⟩ := VD.out.cells
                  go_wp2_with fail
                  go_ret
                  exact ⟨rfl, BB.out⟩
                · have hq0 : ((nqC : Int) == 0) = false := by
                    have h1 := FC3.out.1 rfl
                    have h2 := congrArg List.length MMC.out
                    rw [List.length_map, NQC.out] at h2
                    have h3 : qqC.length ≠ 0 := fun e => h1 (List.eq_nil_of_length_eq_zero e)
                    exact beq_eq_false_iff_ne.2 (by omega)
                  obtain ⟨TT0, TT1⟩ := TT.out
                  obtain ⟨VM0, VM1, VM2, VM3, -⟩ := VM.out.cells
                  obtain ⟨VD0, VD1, VD2, VD3, -⟩ := VD.out.cells
                  go_wp2_with fail
                  generalize w111.alloc (.cells #[.int .u32 g, .bool false, .int .i64 lD, .slice aD nD cD] 48) = w112 at *
                  have FD3 := Lib.hid (FD1.out.1 (of_decide_eq_false BX.out))
                  refine (mWants g false lD aD nD cD sD x _ NND.out (by have := HRD.out.2.1; rw [NND.out] at this; omega) SSD.out HRD.out.inc HRD.out.nn).mono ?_
                  rintro e w113 ⟨rfl, hb⟩
                  clear TT0 TT1 VM0 VM1 VM2 VM3 VD0 VD1 VD2 VD3
                  have BB := Lib.hid (BB.out.trans (hb.mono BB.out.size))
                  have SSC := Lib.hid (SSC.out.below hb)
                  have SSD := Lib.hid (SSD.out.below hb)
                  have TT := Lib.hid (TT.out.below hb)
                  have VM := Lib.hid (VM.out.below hb VM.out.lt)
                  have VC := Lib.hid (VC.out.below hb VC.out.lt)
                  have VD := Lib.hid (VD.out.below hb VD.out.lt)
                  clear hb
                  rw [FD3.out]
                  obtain ⟨TT0, TT1⟩ := TT.out
                  obtain ⟨VM0, VM1, VM2, VM3, -⟩ := VM.out.cells
                  obtain ⟨VD0, VD1, VD2, VD3, -⟩ := VD.out.cells
                  go_wp2_with fail
                  go_ret
                  exact ⟨rfl, BB.out⟩
              · obtain rfl : eC = 7 := FC1.out zC
                clear zC
                go_wp2_with fail
                generalize w109.alloc (.cells #[.int .u32 g, .bool xC, .int .i64 lC, .slice aC nC cC] 48) = w110 at *
                go_ret
                exact ⟨rfl, BB.out⟩
        · by_cases zA : eA = 0
          · subst zA
            have FA2 := Lib.hid (FA1.out rfl)
            obtain rfl : xA = true := FA2.out.1
            by_cases zB : eB = 0
            · subst zB
              have FB2 := Lib.hid (FB1.out rfl)
              obtain rfl : xB = true := FB2.out.1
              by_cases zC : eC = 0
              · subst zC
                have FC3 := Lib.hid (FC2.out rfl)
                clear FA1 FB1
                obtain ⟨TT0, TT1⟩ := TT.out
                obtain ⟨VA0, VA1, VA2, VA3, -⟩ := VA.out.cells
                obtain ⟨VB0, VB1, VB2, VB3, -⟩ := VB.out.cells
                obtain ⟨VC0, VC1, VC2, VC3, -⟩ := VC.out.cells
                go_wp2_with fail
                generalize w109.alloc (.cells #[.int .u32 g, .bool xC, .int .i64 lC, .slice aC nC cC] 48) = w110 at *
                refine (mTick g xC lC aC nC cC sC la _ NNC.out (by have := HRC.out.2.1; rw [NNC.out] at this; omega) SSC.out (fun y hy => by have := (HRC.out.lb.weak (lo_nn _)) y hy; omega) (by have := HRC.out.left; omega) (by have := TB.out; omega)).mono ?_
                rintro e w111 ⟨⟨aD, cD, rfl, hD⟩, hb⟩
                clear TT0 TT1 VA0 VA1 VA2 VA3 VB0 VB1 VB2 VB3 VC0 VC1 VC2 VC3
                have BB := Lib.hid (BB.out.trans (hb.mono BB.out.size))
                have SSC := Lib.hid (SSC.out.below hb)
                have TT := Lib.hid (TT.out.below hb)
                have VM := Lib.hid (VM.out.below hb VM.out.lt)
                have VA := Lib.hid (VA.out.below hb VA.out.lt)
                have VB := Lib.hid (VB.out.below hb VB.out.lt)
                have VC := Lib.hid (VC.out.below hb VC.out.lt)
                clear hb
                have hmx : max la 0 = la := by have := TB.out; omega
                rw [hmx] at hD ⊢
                rw [FC3.out.2.1]
                have HRD := Lib.hid (tick_ok HRC.out (show 0 ≤ la by have := TB.out; omega))
                rw [FC3.out.2.1] at HRD
                have SSD := Lib.hid hD.1
                clear hD hmx
                obtain ⟨lD, hlD⟩ : ∃ l, max (lC - la) 0 = l := ⟨_, rfl⟩
                obtain ⟨sD, hsD⟩ : ∃ l, tkS xC lC sC la = l := ⟨_, rfl⟩
                have FD1 := Lib.hid FC3.out.2.2
                rw [FC3.out.2.1, hsD] at FD1
                rw [hlD, hsD] at HRD ⊢
                rw [hsD] at SSD
                clear hlD hsD
                obtain ⟨nD, hnnD⟩ : ∃ nn, sD.length = nn := ⟨_, rfl⟩
                have NND := Lib.hid hnnD
                rw [hnnD]
                clear hnnD
                have hbn := bel1 w111 (.cells #[.int .u32 g, .bool false, .int .i64 lD, .slice aD nD cD] 48)
                have VDn := MV.new w111 g false lD aD nD cD
                have BB := Lib.hid (BB.out.trans (hbn.mono BB.out.size))
                have SSC := Lib.hid (SSC.out.below hbn)
                have SSD := Lib.hid (SSD.out.below hbn)
                have TT := Lib.hid (TT.out.below hbn)
                have VM := Lib.hid (VM.out.below hbn VM.out.lt)
                have VC := Lib.hid (VC.out.below hbn VC.out.lt)
                clear hbn
                have VD := Lib.hid VDn
                clear VDn
                cases ex
                · by_cases zK : kp = la
                  · have zK' : (kp == la) = true := by simpa using zK
                    clear zK
                    obtain ⟨TT0, TT1⟩ := TT.out
                    obtain ⟨VM0, VM1, VM2, VM3, -⟩ := VM.out.cells
                    obtain ⟨VD0, VD1, VD2, VD3, -⟩ := VD.out.cells
                    go_wp2_with fail
                    generalize w111.alloc (.cells #[.int .u32 g, .bool false, .int .i64 lD, .slice aD nD cD] 48) = w112 at *
                    go_ret
                    exact ⟨rfl, BB.out⟩
                  · have zK' : (kp == la) = false := by simpa using zK
                    have HKL := Lib.hid zK
                    clear zK
                    obtain ⟨TT0, TT1⟩ := TT.out
                    obtain ⟨VM0, VM1, VM2, VM3, -⟩ := VM.out.cells
                    obtain ⟨VD0, VD1, VD2, VD3, -⟩ := VD.out.cells
                    go_wp2_with fail
                    generalize w111.alloc (.cells #[.int .u32 g, .bool false, .int .i64 lD, .slice aD nD cD] 48) = w112 at *
                    have FD3 := Lib.hid (FD1.out.2 (of_decide_eq_true BX.out) HKL.out)
                    refine (mWants g false lD aD nD cD sD x _ NND.out (by have := HRD.out.2.1; rw [NND.out] at this; omega) SSD.out HRD.out.inc HRD.out.nn).mono ?_
                    rintro e w113 ⟨rfl, hb⟩
                    clear TT0 TT1 VM0 VM1 VM2 VM3 VD0 VD1 VD2 VD3
                    have BB := Lib.hid (BB.out.trans (hb.mono BB.out.size))
                    have SSC := Lib.hid (SSC.out.below hb)
                    have SSD := Lib.hid (SSD.out.below hb)
                    have TT := Lib.hid (TT.out.below hb)
                    have VM := Lib.hid (VM.out.below hb VM.out.lt)
                    have VC := Lib.hid (VC.out.below hb VC.out.lt)
                    have VD := Lib.hid (VD.out.below hb VD.out.lt)
                    clear hb
                    rw [FD3.out]
                    obtain ⟨TT0, TT1⟩ := TT.out
                    obtain ⟨VM0, VM1, VM2, VM3, -⟩ := VM.out.cells
                    obtain ⟨VD0, VD1, VD2, VD3, -⟩ := VD.out.cells
                    go_wp2_with fail
                    go_ret
                    exact ⟨rfl, BB.out⟩
                · have hq0 : ((nqC : Int) == 0) = false := by
                    have h1 := FC3.out.1 rfl
                    have h2 := congrArg List.length MMC.out
                    rw [List.length_map, NQC.out] at h2
                    have h3 : qqC.length ≠ 0 := fun e => h1 (List.eq_nil_of_length_eq_zero e)
                    exact beq_eq_false_iff_ne.2 (by omega)
                  by_cases zK : kp = la
                  · have zK' : (kp == la) = true := by simpa using zK
                    clear zK
                    obtain ⟨TT0, TT1⟩ := TT.out
                    obtain ⟨VM0, VM1, VM2, VM3, -⟩ := VM.out.cells
                    obtain ⟨VD0, VD1, VD2, VD3, -⟩ := VD.out.cells
                    go_wp2_with fail
                    generalize w111.alloc (.cells #[.int .u32 g, .bool false, .int .i64 lD, .slice aD nD cD] 48) = w112 at *
                    go_ret
                    exact ⟨rfl, BB.out⟩
                  · have zK' : (kp == la) = false := by simpa using zK
                    have HKL := Lib.hid zK
                    clear zK
                    obtain ⟨TT0, TT1⟩ := TT.out
                    obtain ⟨VM0, VM1, VM2, VM3, -⟩ := VM.out.cells
                    obtain ⟨VD0, VD1, VD2, VD3, -⟩ := VD.out.cells
                    go_wp2_with fail
                    generalize w111.alloc (.cells #[.int .u32 g, .bool false, .int .i64 lD, .slice aD nD cD] 48) = w112 at *
                    have FD3 := Lib.hid (FD1.out.2 (of_decide_eq_true BX.out) HKL.out)
                    refine (mWants g false lD aD nD cD sD x _ NND.out (by have := HRD.out.2.1; rw [NND.out] at this; omega) SSD.out HRD.out.inc HRD.out.nn).mono ?_
                    rintro e w113 ⟨rfl, hb⟩
                    clear TT0 TT1 VM0 VM1 VM2 VM3 VD0 VD1 VD2 VD3
                    have BB := Lib.hid (BB.out.trans (hb.mono BB.out.size))
                    have SSC := Lib.hid (SSC.out.below hb)
                    have SSD := Lib.hid (SSD.out.below hb)
                    have TT := Lib.hid (TT.out.below hb)
                    have VM := Lib.hid (VM.out.below hb VM.out.lt)
                    have VC := Lib.hid (VC.out.below hb VC.out.lt)
                    have VD := Lib.hid (VD.out.below hb VD.out.lt)
                    clear hb
                    rw [FD3.out]
                    obtain ⟨TT0, TT1⟩ := TT.out
                    obtain ⟨VM0, VM1, VM2, VM3, -⟩ := VM.out.cells
                    obtain ⟨VD0, VD1, VD2, VD3, -⟩ := VD.out.cells
                    go_wp2_with fail
                    go_ret
                    exact ⟨rfl, BB.out⟩
              · obtain rfl : eC = 7 := FC1.out zC
                clear zC
                obtain ⟨VA0, VA1, VA2, VA3, -⟩ := VA.out.cells
                obtain ⟨VB0, VB1, VB2, VB3, -⟩ := VB.out.cells
                go_wp2_with fail
                generalize w109.alloc (.cells #[.int .u32 g, .bool xC, .int .i64 lC, .slice aC nC cC] 48) = w110 at *
                go_ret
                exact ⟨rfl, BB.out⟩
            · have zB' : (eB == 0) = false := by simpa using zB
              clear zB
              by_cases zC : eC = 0
              · subst zC
                have FC3 := Lib.hid (FC2.out rfl)
                clear FA1 FB1
                obtain ⟨TT0, TT1⟩ := TT.out
                obtain ⟨VA0, VA1, VA2, VA3, -⟩ := VA.out.cells
                obtain ⟨VB0, VB1, VB2, VB3, -⟩ := VB.out.cells
                obtain ⟨VC0, VC1, VC2, VC3, -⟩ := VC.out.cells
                go_wp2_with fail
                generalize w109.alloc (.cells #[.int .u32 g, .bool xC, .int .i64 lC, .slice aC nC cC] 48) = w110 at *
                refine (mTick g xC lC aC nC cC sC la _ NNC.out (by have := HRC.out.2.1; rw [NNC.out] at this; omega) SSC.out (fun y hy => by have := (HRC.out.lb.weak (lo_nn _)) y hy; omega) (by have := HRC.out.left; omega) (by have := TB.out; omega)).mono ?_
                rintro e w111 ⟨⟨aD, cD, rfl, hD⟩, hb⟩
                clear TT0 TT1 VA0 VA1 VA2 VA3 VB0 VB1 VB2 VB3 VC0 VC1 VC2 VC3
                have BB := Lib.hid (BB.out.trans (hb.mono BB.out.size))
                have SSC := Lib.hid (SSC.out.below hb)
                have TT := Lib.hid (TT.out.below hb)
                have VM := Lib.hid (VM.out.below hb VM.out.lt)
                have VA := Lib.hid (VA.out.below hb VA.out.lt)
                have VB := Lib.hid (VB.out.below hb VB.out.lt)
                have VC := Lib.hid (VC.out.below hb VC.out.lt)
                clear hb
                have hmx : max la 0 = la := by have := TB.out; omega
                rw [hmx] at hD ⊢
                rw [FC3.out.2.1]
                have HRD := Lib.hid (tick_ok HRC.out (show 0 ≤ la by have := TB.out; omega))
                rw [FC3.out.2.1] at HRD
                have SSD := Lib.hid hD.1
                clear hD hmx
                obtain ⟨lD, hlD⟩ : ∃ l, max (lC - la) 0 = l := ⟨_, rfl⟩
                obtain ⟨sD, hsD⟩ : ∃ l, tkS xC lC sC la = l := ⟨_, rfl⟩
                have FD1 := Lib.hid FC3.out.2.2
                rw [FC3.out.2.1, hsD] at FD1
                rw [hlD, hsD] at HRD ⊢
                rw [hsD] at SSD
                clear hlD hsD
                obtain ⟨nD, hnnD⟩ : ∃ nn, sD.length = nn := ⟨_, rfl⟩
                have NND := Lib.hid hnnD
                rw [hnnD]
                clear hnnD
                have hbn := bel1 w111 (.cells #[.int .u32 g, .bool false, .int .i64 lD, .slice aD nD cD] 48)
                have VDn := MV.new w111 g false lD aD nD cD
                have BB := Lib.hid (BB.out.trans (hbn.mono BB.out.size))
                have SSC := Lib.hid (SSC.out.below hbn)
                have SSD := Lib.hid (SSD.out.below hbn)
                have TT := Lib.hid (TT.out.below hbn)
                have VM := Lib.hid (VM.out.below hbn VM.out.lt)
                have VC := Lib.hid (VC.out.below hbn VC.out.lt)
                clear hbn
                have VD := Lib.hid VDn
                clear VDn
                cases ex
                · by_cases zK : kp = la
                  · have zK' : (kp == la) = true := by simpa using zK
                    clear zK
                    obtain ⟨TT0, TT1⟩ := TT.out
                    obtain ⟨VM0, VM1, VM2, VM3, -⟩ := VM.out.cells
                    obtain ⟨VD0, VD1, VD2, VD3, -⟩ := VD.out.cells
                    go_wp2_with fail
                    generalize w111.alloc (.cells #[.int .u32 g, .bool false, .int .i64 lD, .slice aD nD cD] 48) = w112 at *
                    go_ret
                    exact ⟨rfl, BB.out⟩
                  · have zK' : (kp == la) = false := by simpa using zK
                    have HKL := Lib.hid zK
                    clear zK
                    obtain ⟨TT0, TT1⟩ := TT.out
                    obtain ⟨VM0, VM1, VM2, VM3, -⟩ := VM.out.cells
                    obtain ⟨VD0, VD1, VD2, VD3, -⟩ := VD.out.cells
                    go_wp2_with fail
                    generalize w111.alloc (.cells #[.int .u32 g, .bool false, .int .i64 lD, .slice aD nD cD] 48) = w112 at *
                    have FD3 := Lib.hid (FD1.out.2 (of_decide_eq_true BX.out) HKL.out)
                    refine (mWants g false lD aD nD cD sD x _ NND.out (by have := HRD.out.2.1; rw [NND.out] at this; omega) SSD.out HRD.out.inc HRD.out.nn).mono ?_
                    rintro e w113 ⟨rfl, hb⟩
                    clear TT0 TT1 VM0 VM1 VM2 VM3 VD0 VD1 VD2 VD3
                    have BB := Lib.hid (BB.out.trans (hb.mono BB.out.size))
                    have SSC := Lib.hid (SSC.out.below hb)
                    have SSD := Lib.hid (SSD.out.below hb)
                    have TT := Lib.hid (TT.out.below hb)
                    have VM := Lib.hid (VM.out.below hb VM.out.lt)
                    have VC := Lib.hid (VC.out.below hb VC.out.lt)
                    have VD := Lib.hid (VD.out.below hb VD.out.lt)
                    clear hb
                    rw [FD3.out]
                    obtain ⟨TT0, TT1⟩ := TT.out
                    obtain ⟨VM0, VM1, VM2, VM3, -⟩ := VM.out.cells
                    obtain ⟨VD0, VD1, VD2, VD3, -⟩ := VD.out.cells
                    go_wp2_with fail
                    go_ret
                    exact ⟨rfl, BB.out⟩
                · have hq0 : ((nqC : Int) == 0) = false := by
                    have h1 := FC3.out.1 rfl
                    have h2 := congrArg List.length MMC.out
                    rw [List.length_map, NQC.out] at h2
                    have h3 : qqC.length ≠ 0 := fun e => h1 (List.eq_nil_of_length_eq_zero e)
                    exact beq_eq_false_iff_ne.2 (by omega)
                  by_cases zK : kp = la
                  · have zK' : (kp == la) = true := by simpa using zK
                    clear zK
                    obtain ⟨TT0, TT1⟩ := TT.out
                    obtain ⟨VM0, VM1, VM2, VM3, -⟩ := VM.out.cells
                    obtain ⟨VD0, VD1, VD2, VD3, -⟩ := VD.out.cells
                    go_wp2_with fail
                    generalize w111.alloc (.cells #[.int .u32 g, .bool false, .int .i64 lD, .slice aD nD cD] 48) = w112 at *
                    go_ret
                    exact ⟨rfl, BB.out⟩
                  · have zK' : (kp == la) = false := by simpa using zK
                    have HKL := Lib.hid zK
                    clear zK
                    obtain ⟨TT0, TT1⟩ := TT.out
                    obtain ⟨VM0, VM1, VM2, VM3, -⟩ := VM.out.cells
                    obtain ⟨VD0, VD1, VD2, VD3, -⟩ := VD.out.cells
                    go_wp2_with fail
                    generalize w111.alloc (.cells #[.int .u32 g, .bool false, .int .i64 lD, .slice aD nD cD] 48) = w112 at *
                    have FD3 := Lib.hid (FD1.out.2 (of_decide_eq_true BX.out) HKL.out)
                    refine (mWants g false lD aD nD cD sD x _ NND.out (by have := HRD.out.2.1; rw [NND.out] at this; omega) SSD.out HRD.out.inc HRD.out.nn).mono ?_
                    rintro e w113 ⟨rfl, hb⟩
                    clear TT0 TT1 VM0 VM1 VM2 VM3 VD0 VD1 VD2 VD3
                    have BB := Lib.hid (BB.out.trans (hb.mono BB.out.size))
                    have SSC := Lib.hid (SSC.out.below hb)
                    have SSD := Lib.hid (SSD.out.below hb)
                    have TT := Lib.hid (TT.out.below hb)
                    have VM := Lib.hid (VM.out.below hb VM.out.lt)
                    have VC := Lib.hid (VC.out.below hb VC.out.lt)
                    have VD := Lib.hid (VD.out.below hb VD.out.lt)
                    clear hb
                    rw [FD3.out]
                    obtain ⟨TT0, TT1⟩ := TT.out
                    obtain ⟨VM0, VM1, VM2, VM3, -⟩ := VM.out.cells
                    obtain ⟨VD0, VD1, VD2, VD3, -⟩ := VD.out.cells
                    go_wp2_with fail
                    go_ret
                    exact ⟨rfl, BB.out⟩
              · obtain rfl : eC = 7 := FC1.out zC
                clear zC
                obtain ⟨VA0, VA1, VA2, VA3, -⟩ := VA.out.cells
                obtain ⟨VB0, VB1, VB2, VB3, -⟩ := VB.out.cells
                go_wp2_with fail
                generalize w109.alloc (.cells #[.int .u32 g, .bool xC, .int .i64 lC, .slice aC nC cC] 48) = w110 at *
                go_ret
                exact ⟨rfl, BB.out⟩
          · have zA' : (eA == 0) = false := by simpa using zA
            clear zA
            by_cases zB : eB = 0
            · subst zB
              have FB2 := Lib.hid (FB1.out rfl)
              obtain rfl : xB = true := FB2.out.1
              by_cases zC : eC = 0
              · subst zC
                have FC3 := Lib.hid (FC2.out rfl)
                clear FA1 FB1
                obtain ⟨TT0, TT1⟩ := TT.out
                obtain ⟨VA0, VA1, VA2, VA3, -⟩ := VA.out.cells
                obtain ⟨VB0, VB1, VB2, VB3, -⟩ := VB.out.cells
                obtain ⟨VC0, VC1, VC2, VC3, -⟩ := VC.out.cells
                go_wp2_with fail
                generalize w109.alloc (.cells #[.int .u32 g, .bool xC, .int .i64 lC, .slice aC nC cC] 48) = w110 at *
                refine (mTick g xC lC aC nC cC sC la _ NNC.out (by have := HRC.out.2.1; rw [NNC.out] at this; omega) SSC.out (fun y hy => by have := (HRC.out.lb.weak (lo_nn _)) y hy; omega) (by have := HRC.out.left; omega) (by have := TB.out; omega)).mono ?_
                rintro e w111 ⟨⟨aD, cD, rfl, hD⟩, hb⟩
                clear TT0 TT1 VA0 VA1 VA2 VA3 VB0 VB1 VB2 VB3 VC0 VC1 VC2 VC3
                have BB := Lib.hid (BB.out.trans (hb.mono BB.out.size))
                have SSC := Lib.hid (SSC.out.below hb)
                have TT := Lib.hid (TT.out.below hb)
                have VM := Lib.hid (VM.out.below hb VM.out.lt)
                have VA := Lib.hid (VA.out.below hb VA.out.lt)
                have VB := Lib.hid (VB.out.below hb VB.out.lt)
                have VC := Lib.hid (VC.out.below hb VC.out.lt)
                clear hb
                have hmx : max la 0 = la := by have := TB.out; omega
                rw [hmx] at hD ⊢
                rw [FC3.out.2.1]
                have HRD := Lib.hid (tick_ok HRC.out (show 0 ≤ la by have := TB.out; omega))
                rw [FC3.out.2.1] at HRD
                have SSD := Lib.hid hD.1
                clear hD hmx
                obtain ⟨lD, hlD⟩ : ∃ l, max (lC - la) 0 = l := ⟨_, rfl⟩
                obtain ⟨sD, hsD⟩ : ∃ l, tkS xC lC sC la = l := ⟨_, rfl⟩
                have FD1 := Lib.hid FC3.out.2.2
                rw [FC3.out.2.1, hsD] at FD1
                rw [hlD, hsD] at HRD ⊢
                rw [hsD] at SSD
                clear hlD hsD
                obtain ⟨nD, hnnD⟩ : ∃ nn, sD.length = nn := ⟨_, rfl⟩
                have NND := Lib.hid hnnD
                rw [hnnD]
                clear hnnD
                have hbn := bel1 w111 (.cells #[.int .u32 g, .bool false, .int .i64 lD, .slice aD nD cD] 48)
                have VDn := MV.new w111 g false lD aD nD cD
                have BB := Lib.hid (BB.out.trans (hbn.mono BB.out.size))
                have SSC := Lib.hid (SSC.out.below hbn)
                have SSD := Lib.hid (SSD.out.below hbn)
                have TT := Lib.hid (TT.out.below hbn)
                have VM := Lib.hid (VM.out.below hbn VM.out.lt)
                have VC := Lib.hid (VC.out.below hbn VC.out.lt)
                clear hbn
                have VD := Lib.hid VDn
                clear VDn
                cases ex
                · by_cases zK : kp = la
                  · have zK' : (kp == la) = true := by simpa using zK
                    clear zK
                    obtain ⟨TT0, TT1⟩ := TT.out
                    obtain ⟨VM0, VM1, VM2, VM3, -⟩ := VM.out.cells
                    obtain ⟨VD0, VD1, VD2, VD3, -⟩ := VD.out.cells
                    go_wp2_with fail
                    generalize w111.alloc (.cells #[.int .u32 g, .bool false, .int .i64 lD, .slice aD nD cD] 48) = w112 at *
                    go_ret
                    exact ⟨rfl, BB.out⟩
                  · have zK' : (kp == la) = false := by simpa using zK
                    have HKL := Lib.hid zK
                    clear zK
                    obtain ⟨TT0, TT1⟩ := TT.out
                    obtain ⟨VM0, VM1, VM2, VM3, -⟩ := VM.out.cells
                    obtain ⟨VD0, VD1, VD2, VD3, -⟩ := VD.out.cells
                    go_wp2_with fail
                    generalize w111.alloc (.cells #[.int .u32 g, .bool false, .int .i64 lD, .slice aD nD cD] 48) = w112 at *
                    have FD3 := Lib.hid (FD1.out.2 (of_decide_eq_true BX.out) HKL.out)
                    refine (mWants g false lD aD nD cD sD x _ NND.out (by have := HRD.out.2.1; rw [NND.out] at this; omega) SSD.out HRD.out.inc HRD.out.nn).mono ?_
                    rintro e w113 ⟨rfl, hb⟩
                    clear TT0 TT1 VM0 VM1 VM2 VM3 VD0 VD1 VD2 VD3
                    have BB := Lib.hid (BB.out.trans (hb.mono BB.out.size))
                    have SSC := Lib.hid (SSC.out.below hb)
                    have SSD := Lib.hid (SSD.out.below hb)
                    have TT := Lib.hid (TT.out.below hb)
                    have VM := Lib.hid (VM.out.below hb VM.out.lt)
                    have VC := Lib.hid (VC.out.below hb VC.out.lt)
                    have VD := Lib.hid (VD.out.below hb VD.out.lt)
                    clear hb
                    rw [FD3.out]
                    obtain ⟨TT0, TT1⟩ := TT.out
                    obtain ⟨VM0, VM1, VM2, VM3, -⟩ := VM.out.cells
                    obtain ⟨VD0, VD1, VD2, VD3, -⟩ := VD.out.cells
                    go_wp2_with fail
                    go_ret
                    exact ⟨rfl, BB.out⟩
                · have hq0 : ((nqC : Int) == 0) = false := by
                    have h1 := FC3.out.1 rfl
                    have h2 := congrArg List.length MMC.out
                    rw [List.length_map, NQC.out] at h2
                    have h3 : qqC.length ≠ 0 := fun e => h1 (List.eq_nil_of_length_eq_zero e)
                    exact beq_eq_false_iff_ne.2 (by omega)
                  by_cases zK : kp = la
                  · have zK' : (kp == la) = true := by simpa using zK
                    clear zK
                    obtain ⟨TT0, TT1⟩ := TT.out
                    obtain ⟨VM0, VM1, VM2, VM3, -⟩ := VM.out.cells
                    obtain ⟨VD0, VD1, VD2, VD3, -⟩ := VD.out.cells
                    go_wp2_with fail
                    generalize w111.alloc (.cells #[.int .u32 g, .bool false, .int .i64 lD, .slice aD nD cD] 48) = w112 at *
                    go_ret
                    exact ⟨rfl, BB.out⟩
                  · have zK' : (kp == la) = false := by simpa using zK
                    have HKL := Lib.hid zK
                    clear zK
                    obtain ⟨TT0, TT1⟩ := TT.out
                    obtain ⟨VM0, VM1, VM2, VM3, -⟩ := VM.out.cells
                    obtain ⟨VD0, VD1, VD2, VD3, -⟩ := VD.out.cells
                    go_wp2_with fail
                    generalize w111.alloc (.cells #[.int .u32 g, .bool false, .int .i64 lD, .slice aD nD cD] 48) = w112 at *
                    have FD3 := Lib.hid (FD1.out.2 (of_decide_eq_true BX.out) HKL.out)
                    refine (mWants g false lD aD nD cD sD x _ NND.out (by have := HRD.out.2.1; rw [NND.out] at this; omega) SSD.out HRD.out.inc HRD.out.nn).mono ?_
                    rintro e w113 ⟨rfl, hb⟩
                    clear TT0 TT1 VM0 VM1 VM2 VM3 VD0 VD1 VD2 VD3
                    have BB := Lib.hid (BB.out.trans (hb.mono BB.out.size))
                    have SSC := Lib.hid (SSC.out.below hb)
                    have SSD := Lib.hid (SSD.out.below hb)
                    have TT := Lib.hid (TT.out.below hb)
                    have VM := Lib.hid (VM.out.below hb VM.out.lt)
                    have VC := Lib.hid (VC.out.below hb VC.out.lt)
                    have VD := Lib.hid (VD.out.below hb VD.out.lt)
                    clear hb
                    rw [FD3.out]
                    obtain ⟨TT0, TT1⟩ := TT.out
                    obtain ⟨VM0, VM1, VM2, VM3, -⟩ := VM.out.cells
                    obtain ⟨VD0, VD1, VD2, VD3, -⟩ := VD.out.cells
                    go_wp2_with fail
                    go_ret
                    exact ⟨rfl, BB.out⟩
              · obtain rfl : eC = 7 := FC1.out zC
                clear zC
                obtain ⟨VA0, VA1, VA2, VA3, -⟩ := VA.out.cells
                obtain ⟨VB0, VB1, VB2, VB3, -⟩ := VB.out.cells
                go_wp2_with fail
                generalize w109.alloc (.cells #[.int .u32 g, .bool xC, .int .i64 lC, .slice aC nC cC] 48) = w110 at *
                go_ret
                exact ⟨rfl, BB.out⟩
            · have zB' : (eB == 0) = false := by simpa using zB
              clear zB
              by_cases zC : eC = 0
              · subst zC
                have FC3 := Lib.hid (FC2.out rfl)
                clear FA1 FB1
                obtain ⟨TT0, TT1⟩ := TT.out
                obtain ⟨VA0, VA1, VA2, VA3, -⟩ := VA.out.cells
                obtain ⟨VB0, VB1, VB2, VB3, -⟩ := VB.out.cells
                obtain ⟨VC0, VC1, VC2, VC3, -⟩ := VC.out.cells
                go_wp2_with fail
                generalize w109.alloc (.cells #[.int .u32 g, .bool xC, .int .i64 lC, .slice aC nC cC] 48) = w110 at *
                refine (mTick g xC lC aC nC cC sC la _ NNC.out (by have := HRC.out.2.1; rw [NNC.out] at this; omega) SSC.out (fun y hy => by have := (HRC.out.lb.weak (lo_nn _)) y hy; omega) (by have := HRC.out.left; omega) (by have := TB.out; omega)).mono ?_
                rintro e w111 ⟨⟨aD, cD, rfl, hD⟩, hb⟩
                clear TT0 TT1 VA0 VA1 VA2 VA3 VB0 VB1 VB2 VB3 VC0 VC1 VC2 VC3
                have BB := Lib.hid (BB.out.trans (hb.mono BB.out.size))
                have SSC := Lib.hid (SSC.out.below hb)
                have TT := Lib.hid (TT.out.below hb)
                have VM := Lib.hid (VM.out.below hb VM.out.lt)
                have VA := Lib.hid (VA.out.below hb VA.out.lt)
                have VB := Lib.hid (VB.out.below hb VB.out.lt)
                have VC := Lib.hid (VC.out.below hb VC.out.lt)
                clear hb
                have hmx : max la 0 = la := by have := TB.out; omega
                rw [hmx] at hD ⊢
                rw [FC3.out.2.1]
                have HRD := Lib.hid (tick_ok HRC.out (show 0 ≤ la by have := TB.out; omega))
                rw [FC3.out.2.1] at HRD
                have SSD := Lib.hid hD.1
                clear hD hmx
                obtain ⟨lD, hlD⟩ : ∃ l, max (lC - la) 0 = l := ⟨_, rfl⟩
                obtain ⟨sD, hsD⟩ : ∃ l, tkS xC lC sC la = l := ⟨_, rfl⟩
                have FD1 := Lib.hid FC3.out.2.2
                rw [FC3.out.2.1, hsD] at FD1
                rw [hlD, hsD] at HRD ⊢
                rw [hsD] at SSD
                clear hlD hsD
                obtain ⟨nD, hnnD⟩ : ∃ nn, sD.length = nn := ⟨_, rfl⟩
                have NND := Lib.hid hnnD
                rw [hnnD]
                clear hnnD
                have hbn := bel1 w111 (.cells #[.int .u32 g, .bool false, .int .i64 lD, .slice aD nD cD] 48)
                have VDn := MV.new w111 g false lD aD nD cD
                have BB := Lib.hid (BB.out.trans (hbn.mono BB.out.size))
                have SSC := Lib.hid (SSC.out.below hbn)
                have SSD := Lib.hid (SSD.out.below hbn)
                have TT := Lib.hid (TT.out.below hbn)
                have VM := Lib.hid (VM.out.below hbn VM.out.lt)
                have VC := Lib.hid (VC.out.below hbn VC.out.lt)
                clear hbn
                have VD := Lib.hid VDn
                clear VDn
                cases ex
                · by_cases zK : kp = la
                  · have zK' : (kp == la) = true := by simpa using zK
                    clear zK
                    obtain ⟨TT0, TT1⟩ := TT.out
                    obtain ⟨VM0, VM1, VM2, VM3, -⟩ := VM.out.cells
                    obtain ⟨VD0, VD1, VD2, VD3, -⟩ := VD.out.cells
                    go_wp2_with fail
                    generalize w111.alloc (.cells #[.int .u32 g, .bool false, .int .i64 lD, .slice aD nD cD] 48) = w112 at *
                    go_ret
                    exact ⟨rfl, BB.out⟩
                  · have zK' : (kp == la) = false := by simpa using zK
                    have HKL := Lib.hid zK
                    clear zK
                    obtain ⟨TT0, TT1⟩ := TT.out
                    obtain ⟨VM0, VM1, VM2, VM3, -⟩ := VM.out.cells
                    obtain ⟨VD0, VD1, VD2, VD3, -⟩ := VD.out.cells
                    go_wp2_with fail
                    generalize w111.alloc (.cells #[.int .u32 g, .bool false, .int .i64 lD, .slice aD nD cD] 48) = w112 at *
                    have FD3 := Lib.hid (FD1.out.2 (of_decide_eq_true BX.out) HKL.out)
                    refine (mWants g false lD aD nD cD sD x _ NND.out (by have := HRD.out.2.1; rw [NND.out] at this; omega) SSD.out HRD.out.inc HRD.out.nn).mono ?_
                    rintro e w113 ⟨rfl, hb⟩
                    clear TT0 TT1 VM0 VM1 VM2 VM3 VD0 VD1 VD2 VD3
                    have BB := Lib.hid (BB.out.trans (hb.mono BB.out.size))
                    have SSC := Lib.hid (SSC.out.below hb)
                    have SSD := Lib.hid (SSD.out.below hb)
                    have TT := Lib.hid (TT.out.below hb)
                    have VM := Lib.hid (VM.out.below hb VM.out.lt)
                    have VC := Lib.hid (VC.out.below hb VC.out.lt)
                    have VD := Lib.hid (VD.out.below hb VD.out.lt)
                    clear hb
                    rw [FD3.out]
                    obtain ⟨TT0, TT1⟩ := TT.out
                    obtain ⟨VM0, VM1, VM2, VM3, -⟩ := VM.out.cells
                    obtain ⟨VD0, VD1, VD2, VD3, -⟩ := VD.out.cells
                    go_wp2_with fail
                    go_ret
                    exact ⟨rfl, BB.out⟩
                · have hq0 : ((nqC : Int) == 0) = false := by
                    have h1 := FC3.out.1 rfl
                    have h2 := congrArg List.length MMC.out
                    rw [List.length_map, NQC.out] at h2
                    have h3 : qqC.length ≠ 0 := fun e => h1 (List.eq_nil_of_length_eq_zero e)
                    exact beq_eq_false_iff_ne.2 (by omega)
                  by_cases zK : kp = la
                  · have zK' : (kp == la) = true := by simpa using zK
                    clear zK
                    obtain ⟨TT0, TT1⟩ := TT.out
                    obtain ⟨VM0, VM1, VM2, VM3, -⟩ := VM.out.cells
                    obtain ⟨VD0, VD1, VD2, VD3, -⟩ := VD.out.cells
                    go_wp2_with fail
                    generalize w111.alloc (.cells #[.int .u32 g, .bool false, .int .i64 lD, .slice aD nD cD] 48) = w112 at *
                    go_ret
                    exact ⟨rfl, BB.out⟩
                  · have zK' : (kp == la) = false := by simpa using zK
                    have HKL := Lib.hid zK
                    clear zK
                    obtain ⟨TT0, TT1⟩ := TT.out
                    obtain ⟨VM0, VM1, VM2, VM3, -⟩ := VM.out.cells
                    obtain ⟨VD0, VD1, VD2, VD3, -⟩ := VD.out.cells
                    go_wp2_with fail
                    generalize w111.alloc (.cells #[.int .u32 g, .bool false, .int .i64 lD, .slice aD nD cD] 48) = w112 at *
                    have FD3 := Lib.hid (FD1.out.2 (of_decide_eq_true BX.out) HKL.out)
                    refine (mWants g false lD aD nD cD sD x _ NND.out (by have := HRD.out.2.1; rw [NND.out] at this; omega) SSD.out HRD.out.inc HRD.out.nn).mono ?_
                    rintro e w113 ⟨rfl, hb⟩
                    clear TT0 TT1 VM0 VM1 VM2 VM3 VD0 VD1 VD2 VD3
                    have BB := Lib.hid (BB.out.trans (hb.mono BB.out.size))
                    have SSC := Lib.hid (SSC.out.below hb)
                    have SSD := Lib.hid (SSD.out.below hb)
                    have TT := Lib.hid (TT.out.below hb)
                    have VM := Lib.hid (VM.out.below hb VM.out.lt)
                    have VC := Lib.hid (VC.out.below hb VC.out.lt)
                    have VD := Lib.hid (VD.out.below hb VD.out.lt)
                    clear hb
                    rw [FD3.out]
                    obtain ⟨TT0, TT1⟩ := TT.out
                    obtain ⟨VM0, VM1, VM2, VM3, -⟩ := VM.out.cells
                    obtain ⟨VD0, VD1, VD2, VD3, -⟩ := VD.out.cells
                    go_wp2_with fail
                    go_ret
                    exact ⟨rfl, BB.out⟩
              · obtain rfl : eC = 7 := FC1.out zC
                clear zC
                obtain ⟨VA0, VA1, VA2, VA3, -⟩ := VA.out.cells
                obtain ⟨VB0, VB1, VB2, VB3, -⟩ := VB.out.cells
                go_wp2_with fail
                generalize w109.alloc (.cells #[.int .u32 g, .bool xC, .int .i64 lC, .slice aC nC cC] 48) = w110 at *
                go_ret
                exact ⟨rfl, BB.out⟩
      · have q3' : (200 : Int) < (ln : Int) := by omega
        clear q3
        obtain ⟨TT0, TT1⟩ := TT.out
        obtain ⟨VM0, VM1, VM2, VM3, -⟩ := VM.out.cells
        go_wp2_with fail
        go_ret
        exact ⟨rfl, BB.out⟩
    · rw [decide_eq_false q2]
      clear q2
      obtain ⟨TT0, TT1⟩ := TT.out
      obtain ⟨VM0, VM1, VM2, VM3, -⟩ := VM.out.cells
      go_wp2_with fail
      go_ret
      exact ⟨rfl, BB.out⟩
  · rw [decide_eq_false q1]
    clear q1
    obtain ⟨TT0, TT1⟩ := TT.out
    obtain ⟨VM0, VM1, VM2, VM3, -⟩ := VM.out.cells
    go_wp2_with fail
    go_ret
    exact ⟨rfl, BB.out⟩

set_option maxRecDepth 100000 in
theorem contract (H : Type) (enc : TypeId × Value → H) (W : World) (base : Nat) (args : Array Value) (ds gs : List (DataW H)) (before : List MemPlace)
    (hval : ∀ (j : Nat) t v, Try.f7.params[j]? = some t → args[j]? = some v → Value.okWide Try.prog W .any base t v)
    (hW : DataW.Whole enc Try.prog Try.f7.params.toList Rows.membTurnsSpec.vars false W args.toList ds gs before) (hsz : (DataW.weightsEach Try.prog (Try.f7.params.toList ++ Rows.membTurnsSpec.plain.varTypes Try.prog) (ds ++ gs)).all (· ≤ reachBytes) = true) :
    Calls Try.prog 7 args W fun e W' => ∃ v, e = .returned v ∧ Rows.membTurnsSpec.post enc Try.prog Try.f7 false true false false W args v W' := by
  have hW' := hW
  obtain ⟨p, q, hA0, hV, rfl, hfz, hnd⟩ := hW
  have hA : DataW.TrodAll enc Try.prog W 0 (fun _ => true) true Try.f7.params.toList args.toList ds p := hA0
  rw [Try.params7] at hA hval
  obtain ⟨v0, vs0, d0, ds0, p0, q0, hargs, rfl, rfl, h0, r0⟩ := trodAll_cons hA
  obtain ⟨rfl, rfl, rfl⟩ := trodAll_nil r0
  obtain rfl : args = #[v0] := by cases args; simp_all
  obtain ⟨rfl, rfl⟩ := trodVars_none hV
  have k0 := h0
  have lt0 : ∀ x ∈ p0, x.block < W.heap.size := by obtain ⟨m, hm⟩ := k0; exact DataW.trod_lt m _ _ _ hm
  obtain ⟨kq0, l0, g0, x0, f0, a0, c0, s0, b0, e0, t0, u0, rfl, q10, q20, q30, q40, q50, q60, q70⟩ := open_turns (hval 0 69 v0 rfl rfl) h0 (fun x hx => by simpa using List.all_eq_true.1 hsz _ (DataW.weights_mem_each (j := 0) rfl rfl x hx))
  clear hA0
  refine (walk W kq0 l0 g0 x0 f0 a0 c0 s0 b0 e0 t0 u0 q10 q20 q30 q40 q50 q60 q70).mono fun e W' ⟨he, bel⟩ => ?_
  subst he
  exact ⟨_, rfl, _, _, _, [], _, [], hW', trodAll_mk1 (shut_bool Try.underlying4 _), (trodAll_cons_mk (Below.trod laidOut (by kernel_rfl) (of_decide_eq_true (by kernel_rfl)) k0 bel lt0) trodAll_mk0), rfl, bel.frame _, fun h => by cases h⟩

set_option maxRecDepth 100000 in
theorem lifted (os : Os) (started : os.Started) (H : Type) (enc : TypeId × Value → H) :
    ReturnsInHanded {} Try.checked os 7 .any (Rows.membTurnsSpec.pre6 enc Try.prog Try.f7 Rows.membTurnsRow.domain false) (Rows.membTurnsSpec.post enc Try.prog Try.f7 false true false false) := by
  refine returnsInHanded_of_change_sized (C := Try.checked) own started (by kernel_rfl) Try.func7
    (ChangeSpec.witness6 (enc := enc) (C := Try.checked) false ⟨#[], #[(.agg #[.int .i64 0, .int .i64 0, .int .u32 0, .bool false, .int .i64 0, .slice none 0 0, .slice none 0 0, .int .u32 0])], []⟩ 8 (by kernel_rfl) (by kernel_rfl) (by kernel_rfl) (by kernel_rfl)) ?_
  intro W base args ds gs before hval hW hcnd hsz _
  exact contract H enc W base args ds gs before hval hW hsz
theorem said : Rows.MembTurnsSaid :=
  OpenClaim.holds_of_wide 7 Try.f7 rfl rfl rfl rfl rfl rfl rfl ⟨rfl, rfl, rfl, rfl, rfl⟩ rfl rfl rfl rfl rfl (by kernel_rfl) Try.func7 (by kernel_rfl)
    (of_decide_eq_true (by kernel_rfl)) (by unfold Func.isWrapper; first | (rw [if_pos (by decide +kernel)]; kernel_rfl) | (rw [if_neg (by decide +kernel)]; exact ⟨rfl, rfl⟩))
    (fun os started H enc _ => lifted os started H enc)
#print axioms said
end Go.Proofs.Ytllpmepmgnnoaaa.membTurns
