/- Whether two are the same; the document's Wants, Some and Tick. -/
import Derived.Test.YtllpmepmgnnoaaaGreatZa
namespace Go.Proofs.YtllpmepmgnnoaaaGreat
set_option linter.unusedVariables false
open Go.RowKit

set_option maxRecDepth 100000 in
set_option maxHeartbeats 8000000 in
theorem zEqual (a : Option Addr) (n c : Nat) (s : List Hd) (a' : Option Addr) (n' c' : Nat) (s' : List Hd) (w : World) (hx : s.length = n) (hx' : s'.length = n') (hm : n ≤ 100000) (hH : Hs w a s) (hH' : Hs w a' s') :
    Calls Tryz.prog 35 #[.slice a n c, .slice a' n' c'] w fun e w' => e = .returned (.bool (decide (s = s'))) ∧ Below w.heap.size w w' := by
  have HX := Lib.hid hx
  have HX' := Lib.hid hx'
  have HH := Lib.hid hH
  have HH' := Lib.hid hH'
  clear hx hx' hH hH'
  obtain ⟨R, hR⟩ : ∃ R, decide (s = s') = R := ⟨_, rfl⟩
  rw [hR]
  have HYES : Hid (s = s' → R = true) := Lib.hid (fun h => by rw [← hR]; exact decide_eq_true h)
  have HNO : Hid (s ≠ s' → R = false) := Lib.hid (fun h => by rw [← hR]; exact decide_eq_false h)
  clear hR
  go_enter Tryz.func35, Tryz.ntmps35
  by_cases e4 : n = n'
  · subst e4
    go_wp2
    go_loopw [13] (fun v wr => ∃ k : Nat, v = .int .i64 (k : Int) ∧ k ≤ n ∧ s.take k = s'.take k ∧ Below w.heap.size w wr) (fun v _ => n - (intOf v).toNat)
    case atStart => exact ⟨0, rfl, by omega, by simp, Below.refl _ _⟩
    case round =>
      obtain ⟨k, rfl, hk, hpre, hB⟩ := hrel
      have HP := Lib.hid hpre
      have HB := Lib.hid hB
      clear hpre hB
      by_cases hlt : k < n
      · obtain ⟨b, off, rfl, hc⟩ := HH.out.at (k := k) (by rw [HX.out]; exact hlt)
        obtain ⟨b', off', rfl, hc'⟩ := HH'.out.at (k := k) (by rw [HX'.out]; omega)
        obtain ⟨⟨x1, x2⟩, hfk⟩ : ∃ x, s[k]? = some x := ⟨_, List.getElem?_eq_getElem (by rw [HX.out]; exact hlt)⟩
        obtain ⟨⟨y1, y2⟩, hfk'⟩ : ∃ x, s'[k]? = some x := ⟨_, List.getElem?_eq_getElem (by rw [HX'.out]; omega)⟩
        obtain ⟨p0, p1⟩ := (hc k _ hfk).below HB.out
        obtain ⟨q0, q1⟩ := (hc' k _ hfk').below HB.out
        simp only at p0 p1 q0 q1
        have HK := Lib.hid hfk
        have HK' := Lib.hid hfk'
        have r0 : ∀ q, (wr.drewN q).cell? ⟨b, off + k * 2, none⟩ = some (.int .u32 x1) := fun q => p0
        have r1 : ∀ q, (wr.drewN q).cell? ⟨b, off + k * 2 + 1, none⟩ = some (.int .i64 x2) := fun q => p1
        have r2 : ∀ q, (wr.drewN q).cell? ⟨b', off' + k * 2, none⟩ = some (.int .u32 y1) := fun q => q0
        have r3 : ∀ q, (wr.drewN q).cell? ⟨b', off' + k * 2 + 1, none⟩ = some (.int .i64 y2) := fun q => q1
        have hne := heldNe x1 x2 y1 y2
        have hkz : (k : Int) < (n : Int) := by omega
        have k0 : (0 : Int) ≤ (k : Int) := by omega
        clear hc hc' hfk hfk'
        obtain ⟨q, hq⟩ : ∃ q, (!(decide (x1 = y1) && decide (x2 = y2))) = q := ⟨_, rfl⟩
        rw [hq] at hne
        have HQ := Lib.hid hq
        clear hq
        cases q
        · go_wp2
          go_quiet (fail)
          go_wp2
          go_roundw
          case rel =>
            have hxy : (x1, x2) = (y1, y2) := by have := HQ.out; simp only [Bool.not_eq_false', Bool.and_eq_true, decide_eq_true_eq] at this; rw [this.1, this.2]
            exact ⟨k + 1, by go_num, by omega, by rw [takeH HK.out, takeH HK'.out, HP.out, hxy], bdrawn HB.out _⟩
          case measure => simp [intOf]; omega
        · have HE : Hid (R = false) := Lib.hid (HNO.out fun h => by
            have h4 := HK.out
            rw [h, HK'.out] at h4
            have h5 := HQ.out
            simp only [Option.some.injEq, Prod.mk.injEq] at h4
            rw [h4.1, h4.2] at h5
            simp at h5)
          go_wp2
          go_quiet (fail)
          go_wp2
          go_ret
          exact ⟨ret_bool HE.out.symm, bdrawn HB.out _⟩
      · obtain rfl : k = n := by omega
        have hs : s = s' := by
          have h := HP.out
          rwa [List.take_of_length_le (by rw [HX.out]; exact Nat.le_refl _), List.take_of_length_le (by rw [HX'.out]; omega)] at h
        have HE := Lib.hid (HYES.out hs)
        clear hs
        go_wp2_with fail
        go_ret
        exact ⟨ret_bool HE.out.symm, HB.out⟩
  · have HE : Hid (R = false) := Lib.hid (HNO.out fun h => e4 (by rw [← HX.out, ← HX'.out, h]))
    have e4' : ((n : Int) != (n' : Int)) = true := by simp; omega
    clear e4
    go_wp2
    go_ret
    exact ⟨ret_bool HE.out.symm, Below.refl _ _⟩
set_option maxRecDepth 100000 in
set_option maxHeartbeats 8000000 in
theorem zSame (g : Int) (ex : Bool) (left : Int) (a : Option Addr) (n c : Nat) (s : List Hd) (g' : Int) (ex' : Bool) (left' : Int) (a' : Option Addr) (n' c' : Nat) (s' : List Hd) (w : World) (hx : s.length = n) (hx' : s'.length = n') (hm : n ≤ 100000) (hH : Hs w a s) (hH' : Hs w a' s') :
    Calls Tryz.prog 14 #[.agg #[.int .u32 g, .bool ex, .int .i64 left, .slice a n c], .agg #[.int .u32 g', .bool ex', .int .i64 left', .slice a' n' c']] w fun e w' => e = .returned (.bool (decide (g = g' ∧ ex = ex' ∧ left = left' ∧ s = s'))) ∧ Below w.heap.size w w' := by
  obtain ⟨w2, hw2⟩ : ∃ w2, w2 = (w.alloc (.cells #[.int .u32 g, .bool ex, .int .i64 left, .slice a n c] 28)).alloc (.cells #[.int .u32 g', .bool ex', .int .i64 left', .slice a' n' c'] 28) := ⟨_, rfl⟩
  obtain ⟨v0, v1, hb⟩ := mk2s w g ex left a n c g' ex' left' a' n' c' w2 hw2
  have HB := Lib.hid hb
  have HX := Lib.hid hx
  have HX' := Lib.hid hx'
  have HH := Lib.hid (hH.below hb)
  have HH' := Lib.hid (hH'.below hb)
  clear hx hx' hH hH' v0 v1 hb
  obtain ⟨R, hR⟩ : ∃ R, decide (g = g' ∧ ex = ex' ∧ left = left' ∧ s = s') = R := ⟨_, rfl⟩
  rw [hR]
  go_enter Tryz.func14, Tryz.ntmps14
  by_cases e1 : g = g'
  · by_cases e2 : ex = ex'
    · by_cases e3 : left = left'
      · have HR : Hid (decide (s = s') = R) := Lib.hid (by rw [← hR]; exact decide_eq_decide.2 ⟨fun h => ⟨e1, e2, e3, h⟩, fun h => h.2.2.2⟩)
        clear hR
        subst e1 e2 e3
        cases ex
        all_goals
          go_wp2_with fail
          rw [← hw2]
          clear hw2
          refine (zEqual a n c s a' n' c' s' w2 HX.out HX'.out hm HH.out HH'.out).mono ?_
          rintro e w3 ⟨rfl, hb⟩
          have HB3 := Lib.hid (HB.out.trans (hb.mono HB.out.size))
          clear hb
          rw [HR.out]
          cases R
          all_goals
            go_wp2_with fail
            go_ret
            exact ⟨rfl, HB3.out⟩
      · have HE : Hid (R = false) := Lib.hid (by rw [← hR]; exact decide_eq_false fun h => e3 h.2.2.1)
        clear hR
        subst e1 e2
        have e3' : (left == left') = false := by simpa using e3
        clear e3
        cases ex
        all_goals
          go_wp2
          go_ret
          exact ⟨ret_bool HE.out.symm, hw2 ▸ HB.out⟩
    · have HE : Hid (R = false) := Lib.hid (by rw [← hR]; exact decide_eq_false fun h => e2 h.2.1)
      clear hR
      subst e1
      cases ex <;> cases ex'
      all_goals first
        | (exfalso; exact e2 rfl)
        | (go_wp2
           go_ret
           exact ⟨ret_bool HE.out.symm, hw2 ▸ HB.out⟩)
  · have HE : Hid (R = false) := Lib.hid (by rw [← hR]; exact decide_eq_false fun h => e1 h.1)
    clear hR
    have e1' : (g == g') = false := by simpa using e1
    clear e1
    go_wp2
    go_ret
    exact ⟨ret_bool HE.out.symm, hw2 ▸ HB.out⟩
set_option maxRecDepth 100000 in
set_option maxHeartbeats 8000000 in
/-- How long a source is kept yet. -/
theorem zLeft (g : Int) (ex : Bool) (left : Int) (a : Option Addr) (n c : Nat) (s : List Hd) (x : Int) (w : World) (hx : s.length = n) (hm : n ≤ 100000) (hH : Hs w a s) (hi : Inc (ad s)) :
    Calls Tryz.prog 38 #[.agg #[.int .u32 g, .bool ex, .int .i64 left, .slice a n c], .int .u32 x] w fun e w' => e = .returned (.int .i64 (lf s x)) ∧ Below w.heap.size w w' := by
  have V0 := Lib.hid (MV.new w g ex left a n c)
  have hb := bel1 w (.cells #[.int .u32 g, .bool ex, .int .i64 left, .slice a n c] 28)
  have HB := Lib.hid hb
  have HX := Lib.hid hx
  have HH := Lib.hid hH
  have HI := Lib.hid hi
  clear hx hH hi hb
  go_enter Tryz.func38, Tryz.ntmps38
  go_wp2
  generalize w.alloc (.cells #[.int .u32 g, .bool ex, .int .i64 left, .slice a n c] 28) = w1 at *
  obtain ⟨c0, c1, c2, c3, -⟩ := V0.out.cells
  go_loopw [5] (fun v wr => ∃ k : Nat, v = .int .i64 (k : Int) ∧ k ≤ n ∧ (∀ y ∈ s.take k, y.1 ≠ x) ∧ wr = w1) (fun v _ => n - (intOf v).toNat)
  case atStart => exact ⟨0, rfl, by omega, by simp, by trivial⟩
  case round =>
    obtain ⟨k, rfl, hk, hno, rfl⟩ := hrel
    have HNO := Lib.hid hno
    clear hno
    by_cases hlt : k < n
    · obtain ⟨b, off, rfl, hc⟩ := HH.out.at (k := k) (by rw [HX.out]; exact hlt)
      obtain ⟨⟨x1, x2⟩, hfk⟩ : ∃ y, s[k]? = some y := ⟨_, List.getElem?_eq_getElem (by rw [HX.out]; exact hlt)⟩
      obtain ⟨d0, d1⟩ := (hc k _ hfk).below HB.out
      simp only at d0 d1
      have HFK := Lib.hid hfk
      have hkz : (k : Int) < (n : Int) := by omega
      have k0 : (0 : Int) ≤ (k : Int) := by omega
      clear hc hfk
      by_cases he : x1 = x
      · have HE := Lib.hid (lf_of HI.out (List.mem_of_getElem? HFK.out))
        subst he
        have hb1 : (x1 == x1) = true := by simp
        go_wp2
        go_ret
        exact ⟨by rw [HE.out]; rfl, HB.out⟩
      · have hb1 : (x1 == x) = false := by simpa using he
        have HNE := Lib.hid he
        clear he
        go_wp2
        go_roundw
        case rel =>
          refine ⟨k + 1, by go_num, by omega, ?_, by trivial⟩
          rw [takeH HFK.out]
          intro y hy
          rcases List.mem_append.1 hy with h | h
          · exact HNO.out y h
          · obtain rfl : y = (x1, x2) := by simpa using h
            exact HNE.out
        case measure => simp [intOf]; omega
    · obtain rfl : k = n := by omega
      have h1 := HNO.out
      rw [List.take_of_length_le (by rw [HX.out]; exact Nat.le_refl _)] at h1
      have HE := Lib.hid (lf_none (s := s) (a := x) (fun hm => by obtain ⟨t, ht⟩ := ad_mem.1 hm; exact h1 _ ht rfl))
      clear h1
      go_wp2
      go_ret
      exact ⟨by rw [HE.out]; rfl, HB.out⟩
def wantsR (ex : Bool) (s : List Hd) (x : Int) : Bool := if ex then !decide (lf s x = 0) else decide (0 < lf s x)
theorem wantsR_eq {g : Int} {ex : Bool} {left : Int} {s : List Hd} (h : okM g ex left s) (x : Int) : wantsR ex s x = wantsP ex s x := by
  unfold wantsR wantsP
  have hlow := lf_low h.nn x
  cases ex
  · simp only [Bool.false_eq_true, if_false, Bool.not_false, Bool.true_or]
    by_cases hm : x ∈ ad s
    · have hb := h.lb.lf hm
      have : (1 : Int) ≤ lf s x := hb.1
      rw [if_pos (by omega), decide_eq_true (by omega)]
    · rw [lf_none hm]; decide
  · simp only [if_true, Bool.not_true, Bool.false_or]
    by_cases h0 : 0 ≤ lf s x
    · rw [if_pos h0]
      by_cases hz : lf s x = 0
      · rw [hz]; decide
      · rw [decide_eq_false hz, decide_eq_true (by omega)]; rfl
    · rw [if_neg h0, decide_eq_false (by omega)]; rfl
theorem zWants (g : Int) (ex : Bool) (left : Int) (a : Option Addr) (n c : Nat) (s : List Hd) (x : Int) (w : World) (hx : s.length = n) (hm : n ≤ 100000) (hH : Hs w a s) (hi : Inc (ad s)) :
    Calls Tryz.prog 16 #[.agg #[.int .u32 g, .bool ex, .int .i64 left, .slice a n c], .int .u32 x] w fun e w' => e = .returned (.bool (wantsR ex s x)) ∧ Below w.heap.size w w' := by
  have V0 := Lib.hid (MV.new w g ex left a n c)
  have hb := bel1 w (.cells #[.int .u32 g, .bool ex, .int .i64 left, .slice a n c] 28)
  have HB := Lib.hid hb
  have HX := Lib.hid hx
  have HH := Lib.hid (hH.below hb)
  have HI := Lib.hid hi
  clear hx hH hi hb
  go_enter Tryz.func16, Tryz.ntmps16
  go_wp2_with fail
  generalize w.alloc (.cells #[.int .u32 g, .bool ex, .int .i64 left, .slice a n c] 28) = w1 at *
  refine (zLeft g ex left a n c s x w1 HX.out hm HH.out HI.out).mono ?_
  rintro e w2 ⟨rfl, hb⟩
  have V2 := Lib.hid (V0.out.below hb V0.out.lt)
  have HB2 := Lib.hid (HB.out.trans (hb.mono HB.out.size))
  clear hb V0
  obtain ⟨c0, c1, c2, c3, -⟩ := V2.out.cells
  obtain ⟨q, hq⟩ : ∃ q, lf s x = q := ⟨_, rfl⟩
  rw [hq]
  have HQ := Lib.hid hq
  clear hq
  cases ex
  · have HW : Hid (wantsR false s x = decide (0 < q)) := Lib.hid (by unfold wantsR; rw [HQ.out]; rfl)
    go_wp2
    go_ret
    exact ⟨by rw [HW.out]; rfl, HB2.out⟩
  · by_cases hz : q = 0
    · have HW : Hid (wantsR true s x = false) := Lib.hid (by unfold wantsR; rw [HQ.out, hz]; rfl)
      subst hz
      go_wp2
      go_ret
      exact ⟨ret_bool HW.out.symm, HB2.out⟩
    · have HW : Hid (wantsR true s x = true) := Lib.hid (by unfold wantsR; rw [HQ.out, decide_eq_false hz]; rfl)
      have hz' : (q != 0) = true := by simpa using hz
      clear hz
      go_wp2
      go_ret
      exact ⟨ret_bool HW.out.symm, HB2.out⟩
theorem zSome (g : Int) (ex : Bool) (left : Int) (a : Option Addr) (n c : Nat) (w : World) :
    Calls Tryz.prog 18 #[.agg #[.int .u32 g, .bool ex, .int .i64 left, .slice a n c]] w fun e w' => e = .returned (.bool (ex || decide (0 < n))) ∧ Below w.heap.size w w' := by
  have h1 : decide ((0 : Int) < (n : Int)) = decide (0 < n) := decide_eq_decide.2 (by omega)
  have H1 := Lib.hid h1
  clear h1
  cases ex
  · go_enter Tryz.func18, Tryz.ntmps18
    go_wp2
    go_ret
    exact ⟨by rw [Bool.false_or, ← H1.out]; simp, bel1 w _⟩
  · go_enter Tryz.func18, Tryz.ntmps18
    go_wp2
    go_ret
    exact ⟨rfl, bel1 w _⟩
end Go.Proofs.YtllpmepmgnnoaaaGreat
