/- What is right, and what the same: the program's own answers. -/
import Derived.Test.YtllpmepmgnnoaaaGreatVq
import Derived.Test.YtllpmepmgnnoaaaGreatVu
import Derived.Test.YtllpmepmgnnoaaaGreatPe
namespace Go.Proofs.YtllpmepmgnnoaaaGreat
set_option linter.unusedVariables false
open Go.RowKit

theorem zIsGroup (g : Int) (w : World) :
    Calls Tryz.prog 58 #[.int .u32 g] w fun e w' => e = .returned (.bool (decide (3758096384 ≤ g ∧ g ≤ 4026531839))) ∧ w = w' := by
  by_cases h1 : 3758096384 ≤ g
  · by_cases h2 : g ≤ 4026531839
    · rw [decide_eq_true ⟨h1, h2⟩]
      go_enter Tryz.func58, Tryz.ntmps58
      go_wp2
      go_ret
      exact ⟨rfl, rfl⟩
    · rw [decide_eq_false (fun e => h2 e.2)]
      go_enter Tryz.func58, Tryz.ntmps58
      go_wp2
      go_ret
      exact ⟨rfl, rfl⟩
  · rw [decide_eq_false (fun e => h1 e.1)]
    go_enter Tryz.func58, Tryz.ntmps58
    go_wp2
    go_ret
    exact ⟨rfl, rfl⟩
theorem zIsLocal (g : Int) (w : World) :
    Calls Tryz.prog 59 #[.int .u32 g] w fun e w' => e = .returned (.bool (decide (3758096384 ≤ g ∧ g ≤ 3758096639))) ∧ w = w' := by
  by_cases h1 : 3758096384 ≤ g
  · by_cases h2 : g ≤ 3758096639
    · rw [decide_eq_true ⟨h1, h2⟩]
      go_enter Tryz.func59, Tryz.ntmps59
      go_wp2
      go_ret
      exact ⟨rfl, rfl⟩
    · rw [decide_eq_false (fun e => h2 e.2)]
      go_enter Tryz.func59, Tryz.ntmps59
      go_wp2
      go_ret
      exact ⟨rfl, rfl⟩
  · rw [decide_eq_false (fun e => h1 e.1)]
    go_enter Tryz.func59, Tryz.ntmps59
    go_wp2
    go_ret
    exact ⟨rfl, rfl⟩
theorem zIsAsked (g : Int) (w : World) :
    Calls Tryz.prog 31 #[.int .u32 g] w fun e w' => e = .returned (.bool (vAskd g)) ∧ w = w' := by
  by_cases h1 : 3758096384 ≤ g ∧ g ≤ 4026531839
  · by_cases h2 : 3758096384 ≤ g ∧ g ≤ 3758096639
    · have e : vAskd g = false := by unfold vAskd; rw [decide_eq_false_iff_not]; omega
      have D1 := Lib.hid (decide_eq_true h1)
      have D2 := Lib.hid (decide_eq_true h2)
      rw [e]
      clear h1 h2 e
      go_enter Tryz.func31, Tryz.ntmps31
      go_wp2_with (first
        | (go_at_call 58; refine (zIsGroup g _).mono ?_; rintro e w1 ⟨rfl, rfl⟩; rw [D1.out])
        | (go_at_call 59; refine (zIsLocal g _).mono ?_; rintro e w2 ⟨rfl, rfl⟩; rw [D2.out]))
      go_ret
      exact ⟨rfl, rfl⟩
    · have e : vAskd g = true := by unfold vAskd; rw [decide_eq_true_eq]; omega
      have D1 := Lib.hid (decide_eq_true h1)
      have D2 := Lib.hid (decide_eq_false h2)
      rw [e]
      clear h1 h2 e
      go_enter Tryz.func31, Tryz.ntmps31
      go_wp2_with (first
        | (go_at_call 58; refine (zIsGroup g _).mono ?_; rintro e w1 ⟨rfl, rfl⟩; rw [D1.out])
        | (go_at_call 59; refine (zIsLocal g _).mono ?_; rintro e w2 ⟨rfl, rfl⟩; rw [D2.out]))
      go_ret
      exact ⟨rfl, rfl⟩
  · have e : vAskd g = false := by unfold vAskd; rw [decide_eq_false_iff_not]; omega
    have D1 := Lib.hid (decide_eq_false h1)
    rw [e]
    clear h1 e
    go_enter Tryz.func31, Tryz.ntmps31
    go_wp2_with (go_at_call 58; refine (zIsGroup g _).mono ?_; rintro e w1 ⟨rfl, rfl⟩; rw [D1.out])
    go_ret
    exact ⟨rfl, rfl⟩
theorem zHas (l h x : Int) (w : World) : Calls Tryz.prog 30 #[.agg #[.int .i64 l, .int .i64 h], .int .i64 x] w fun e w' => e = .returned (.bool (decide (l ≤ x ∧ x ≤ h))) ∧ Below w.heap.size w w' := by
  by_cases h1 : l ≤ x
  · by_cases h2 : x ≤ h
    · have HE : Hid (decide (l ≤ x ∧ x ≤ h) = true) := Lib.hid (decide_eq_true ⟨h1, h2⟩)
      go_enter Tryz.func30, Tryz.ntmps30
      go_wp2
      go_ret
      exact ⟨ret_bool HE.out.symm, bel1 w _⟩
    · have HE : Hid (decide (l ≤ x ∧ x ≤ h) = false) := Lib.hid (decide_eq_false fun k => h2 k.2)
      have h2' : decide (x ≤ h) = false := decide_eq_false h2
      clear h2
      go_enter Tryz.func30, Tryz.ntmps30
      go_wp2
      go_ret
      exact ⟨ret_bool HE.out.symm, bel1 w _⟩
  · have HE : Hid (decide (l ≤ x ∧ x ≤ h) = false) := Lib.hid (decide_eq_false fun k => h1 k.1)
    have h1' : decide (l ≤ x) = false := decide_eq_false h1
    clear h1
    go_enter Tryz.func30, Tryz.ntmps30
    go_wp2
    go_ret
    exact ⟨ret_bool HE.out.symm, bel1 w _⟩
/-- Two cells of a span. -/
def SC (w : World) (B : Nat) (l h : Int) : Prop := w.cell? ⟨B, 0, none⟩ = some (.int .i64 l) ∧ w.cell? ⟨B, 1, none⟩ = some (.int .i64 h)
theorem SC.below {w w' : World} {B : Nat} {l h : Int} (k : SC w B l h) (hb : Below w.heap.size w w') : SC w' B l h := ⟨(hb.cell (cell_lt k.1)).trans k.1, (hb.cell (cell_lt k.2)).trans k.2⟩
theorem zWrong (B : Nat) (l h : Int) (x : Hd) (w : World) (hB : SC w B l h) :
    Calls Tryz.prog 29 #[.agg #[.int .u32 x.1, .int .i64 x.2], .pointer (some ⟨B, 0, none⟩)] w fun e w' => e = .returned (.bool (!decide (l ≤ x.2 ∧ x.2 ≤ h))) ∧ Below w.heap.size w w' := by
  obtain ⟨x1, x2⟩ := x
  have hb := bel1 w (.cells #[.int .u32 x1, .int .i64 x2] 50)
  obtain ⟨c0, c1⟩ := hB.below hb
  have HB := Lib.hid hb
  clear hB hb
  show Calls _ _ _ _ fun e w' => e = .returned (.bool (!decide (l ≤ x2 ∧ x2 ≤ h))) ∧ Below w.heap.size w w'
  go_enter Tryz.func29, Tryz.ntmps29
  go_wp2_with fail
  refine (zHas l h x2 _).mono ?_
  rintro e w1 ⟨rfl, hb1⟩
  have HB1 := Lib.hid (HB.out.trans (hb1.mono HB.out.size))
  clear hb1 c0 c1
  obtain ⟨q, hq⟩ : ∃ q, decide (l ≤ x2 ∧ x2 ≤ h) = q := ⟨_, rfl⟩
  rw [hq]
  have HQ := Lib.hid hq
  clear hq
  cases q
  all_goals
    go_wp2_with fail
    go_ret
    exact ⟨ret_bool (by rw [HQ.out]; rfl), HB1.out⟩
instance (s : List Hd) (l h : Int) : Decidable (LB s l h) := by unfold LB; infer_instance
set_option maxRecDepth 100000 in
set_option maxHeartbeats 4000000 in
theorem zIdx (B : Nat) (l h : Int) (a : Option Addr) (n c : Nat) (s : List Hd) (w : World) (hx : s.length = n) (hn : n ≤ 100000) (hH : Hs w a s) (hN : SC w B l h) :
    Calls Tryz.prog 36 #[.slice a n c, .func (.func 29) #[] #[.pointer (some ⟨B, 0, none⟩)]] w fun e w' =>
      (∃ r : Int, e = .returned (.int .i64 r) ∧ decide (0 ≤ r) = !decide (LB s l h)) ∧ Below w.heap.size w w' := by
  have HX := Lib.hid hx
  have HH := Lib.hid hH
  have HN := Lib.hid hN
  clear hx hH hN
  go_enter Tryz.func36, Tryz.ntmps36
  go_wp2
  go_loopw [8] (fun v wr => ∃ k : Nat, v = .int .i64 (k : Int) ∧ k ≤ n ∧ LB (s.take k) l h ∧ Below w.heap.size w wr) (fun v _ => n - (intOf v).toNat)
  case atStart => exact ⟨0, rfl, by omega, by simp [LB], Below.refl _ _⟩
  case round =>
    obtain ⟨k, rfl, hk, hno, hB⟩ := hrel
    have HNO := Lib.hid hno
    have HB := Lib.hid hB
    clear hno hB
    by_cases hlt : k < n
    · obtain ⟨b, off, rfl, hc⟩ := HH.out.at (k := k) (by rw [HX.out]; exact hlt)
      obtain ⟨⟨x1, x2⟩, hfk⟩ : ∃ y, s[k]? = some y := ⟨_, List.getElem?_eq_getElem (by rw [HX.out]; exact hlt)⟩
      obtain ⟨d0, d1⟩ := (hc k _ hfk).below HB.out
      simp only at d0 d1
      have HFK := Lib.hid hfk
      have hkz : (k : Int) < (n : Int) := by omega
      clear hc hfk
      go_wp2_with fail
      refine (zWrong B l h (x1, x2) wr (HN.out.below HB.out)).mono ?_
      rintro e w1 ⟨rfl, hb1⟩
      have HB1 := Lib.hid (HB.out.trans (hb1.mono HB.out.size))
      clear hb1 d0 d1
      obtain ⟨q, hq⟩ : ∃ q, (!decide (l ≤ ((x1, x2) : Hd).2 ∧ ((x1, x2) : Hd).2 ≤ h)) = q := ⟨_, rfl⟩
      rw [hq]
      have HQ := Lib.hid hq
      clear hq
      cases q
      · go_wp2_with fail
        go_roundw
        case rel =>
          refine ⟨k + 1, by go_num, by omega, ?_, HB1.out⟩
          rw [takeH HFK.out]
          intro y hy
          rcases List.mem_append.1 hy with h1 | h1
          · exact HNO.out y h1
          · obtain rfl : y = (x1, x2) := by simpa using h1
            have := HQ.out
            simpa using this
        case measure => simp [intOf]; omega
      · go_wp2_with fail
        go_ret
        refine ⟨⟨k, rfl, ?_⟩, HB1.out⟩
        have hno : ¬ LB s l h := fun k2 => by
          have h1 := k2 _ (List.mem_of_getElem? HFK.out)
          have h2 := HQ.out
          simp only [Bool.not_eq_true', decide_eq_false_iff_not] at h2
          exact h2 h1
        rw [decide_eq_false hno, decide_eq_true (by omega)]
        rfl
    · obtain rfl : k = n := by omega
      go_wp2_with fail
      go_ret
      refine ⟨⟨-1, rfl, ?_⟩, HB.out⟩
      have h1 := HNO.out
      rw [List.take_of_length_le (by rw [HX.out]; exact Nat.le_refl _)] at h1
      rw [decide_eq_true h1]
      rfl
theorem zContains (B : Nat) (l h : Int) (a : Option Addr) (n c : Nat) (s : List Hd) (w : World) (hx : s.length = n) (hn : n ≤ 100000) (hH : Hs w a s) (hN : SC w B l h) :
    Calls Tryz.prog 34 #[.slice a n c, .func (.func 29) #[] #[.pointer (some ⟨B, 0, none⟩)]] w fun e w' => e = .returned (.bool (!decide (LB s l h))) ∧ Below w.heap.size w w' := by
  have HX := Lib.hid hx
  have HH := Lib.hid hH
  have HN := Lib.hid hN
  clear hx hH hN
  go_enter Tryz.func34, Tryz.ntmps34
  go_wp2_with fail
  refine (zIdx B l h a n c s _ HX.out hn HH.out HN.out).mono ?_
  rintro e w1 ⟨⟨r, rfl, hr⟩, hb⟩
  have HR := Lib.hid hr
  have HB := Lib.hid hb
  clear hr hb
  go_wp2_with fail
  go_ret
  exact ⟨ret_bool HR.out, HB.out⟩
theorem mkSpan (w : World) (g : Int) (ex : Bool) (left : Int) (a : Option Addr) (n c : Nat) (l h l2 h2 : Int) (W : World)
    (hW : W = ((w.alloc (.cells #[.int .u32 g, .bool ex, .int .i64 left, .slice a n c] 28)).alloc (.cells #[.int .i64 l, .int .i64 h] 67)).alloc (.cells #[.int .i64 l2, .int .i64 h2] 67)) :
    MV W w.heap.size g ex left a n c ∧ SC W (w.heap.size + 1) l h ∧ SC W (w.heap.size + 2) l2 h2 ∧ Below w.heap.size w W := by
  subst hW
  have e1 : (w.alloc (.cells #[.int .u32 g, .bool ex, .int .i64 left, .slice a n c] 28)).heap.size = w.heap.size + 1 := World.size_alloc _ _
  have e2 : ((w.alloc (.cells #[.int .u32 g, .bool ex, .int .i64 left, .slice a n c] 28)).alloc (.cells #[.int .i64 l, .int .i64 h] 67)).heap.size = w.heap.size + 2 := by rw [World.size_alloc, e1]
  have l1 := Go.Deep.blk_alloc_new (w.alloc (.cells #[.int .u32 g, .bool ex, .int .i64 left, .slice a n c] 28)) (.cells #[.int .i64 l, .int .i64 h] 67)
  rw [e1] at l1
  have l1' := v_blk l1 (.cells #[.int .i64 l2, .int .i64 h2] 67)
  have l2' := Go.Deep.blk_alloc_new ((w.alloc (.cells #[.int .u32 g, .bool ex, .int .i64 left, .slice a n c] 28)).alloc (.cells #[.int .i64 l, .int .i64 h] 67)) (.cells #[.int .i64 l2, .int .i64 h2] 67)
  rw [e2] at l2'
  exact ⟨((MV.new w g ex left a n c).keep _).keep _, ⟨by simp only [World.cell?, l1']; rfl, by simp only [World.cell?, l1']; rfl⟩, ⟨by simp only [World.cell?, l2']; rfl, by simp only [World.cell?, l2']; rfl⟩, (((Below.refl _ w).alloc (Nat.le_refl _) _).alloc (by rw [e1]; omega) _).alloc (by rw [e2]; omega) _⟩
set_option maxRecDepth 100000 in
set_option maxHeartbeats 16000000 in
theorem zRight (g : Int) (ex : Bool) (left : Int) (a : Option Addr) (n c : Nat) (s : List Hd) (w : World) (hx : s.length = n) (hn : n ≤ 100000) (hH : Hs w a s) :
    Calls Tryz.prog 13 #[.agg #[.int .u32 g, .bool ex, .int .i64 left, .slice a n c]] w fun e w' => e = .returned (.bool (decide (okM g ex left s))) ∧ Below w.heap.size w w' := by
  have HX := Lib.hid hx
  have HH0 := Lib.hid hH
  clear hx hH
  obtain ⟨ask, hask⟩ : ∃ ask, vAskd g = ask := ⟨_, rfl⟩
  have D2 := Lib.hid hask
  obtain ⟨R, hR⟩ : ∃ R, decide (okM g ex left s) = R := ⟨_, rfl⟩
  rw [hR]
  have HR := Lib.hid hR
  clear hask hR
  go_enter Tryz.func13, Tryz.ntmps13
  cases ex
  · go_wp2_with fail
    obtain ⟨wz, hwz⟩ : ∃ wz, wz = ((w.alloc (.cells #[.int .u32 g, .bool false, .int .i64 left, .slice a n c] 28)).alloc (.cells #[.int .i64 0, .int .i64 0] 67)).alloc (.cells #[.int .i64 1, .int .i64 1000000] 67) := ⟨_, rfl⟩
    obtain ⟨v0, gg, ss, hbz⟩ := mkSpan w g false left a n c 0 0 1 1000000 wz hwz
    rw [← hwz]
    have V0 := Lib.hid v0
    have G := Lib.hid gg
    have S := Lib.hid ss
    have BB := Lib.hid hbz
    have HH := Lib.hid (HH0.out.below hbz)
    clear hwz v0 gg ss hbz
    refine (zIsAsked g wz).mono ?_
    rintro e w5 ⟨rfl, rfl⟩
    rw [D2.out]
    obtain ⟨c0, c1, c2, c3, -⟩ := V0.out.cells
    obtain ⟨g0, g1⟩ := G.out
    cases ask
    · have HE : Hid (R = false) := Lib.hid (by rw [← HR.out]; exact decide_eq_false fun h => by have := h.1; rw [D2.out] at this; cases this)
      go_wp2_with fail
      go_ret
      exact ⟨ret_bool HE.out.symm, BB.out⟩
    · go_wp2_with fail
      refine (zHas 0 0 left wz).mono ?_
      rintro e w6 ⟨rfl, hb⟩
      have V6 := Lib.hid (V0.out.below hb V0.out.lt)
      have S6 := Lib.hid (S.out.below hb)
      have H6 := Lib.hid (HH.out.below hb)
      have B6 := Lib.hid (BB.out.trans (hb.mono BB.out.size))
      clear hb c0 c1 c2 c3 g0 g1 V0 S G HH BB
      by_cases hl : okL false left
      · have hd : decide ((0 : Int) ≤ left ∧ left ≤ 0) = true := decide_eq_true (by unfold okL at hl; simp at hl; omega)
        rw [hd]
        have HOL := Lib.hid hl
        clear hd hl
        obtain ⟨c0, c1, c2, c3, -⟩ := V6.out.cells
        by_cases h64 : n ≤ 64
        · have h64' : (n : Int) ≤ 64 := by omega
          go_wp2_with fail
          refine (mAddrs a n c s w6 HX.out (by omega) H6.out).mono ?_
          rintro e w7 ⟨⟨a7, c7, rfl, hA7, hf7, ho7⟩, hb⟩
          have V7 := Lib.hid (V6.out.below hb V6.out.lt)
          have S7 := Lib.hid (S6.out.below hb)
          have H7 := Lib.hid (H6.out.below hb)
          have B7 := Lib.hid (B6.out.trans (hb.mono B6.out.size))
          have A7 := Lib.hid hA7
          clear hb c0 c1 c2 c3 V6 S6 H6 B6 hA7 hf7 ho7
          go_wp2_with fail
          refine (sRight a7 _ c7 (ad s) w7 rfl (by rw [ad_len, HX.out]; omega) A7.out).mono ?_
          rintro e w8 ⟨rfl, hb⟩
          have V8 := Lib.hid (V7.out.below hb V7.out.lt)
          have S8 := Lib.hid (S7.out.below hb)
          have H8 := Lib.hid (H7.out.below hb)
          have B8 := Lib.hid (B7.out.trans (hb.mono B7.out.size))
          clear hb V7 S7 H7 B7 A7
          obtain ⟨c0, c1, c2, c3, -⟩ := V8.out.cells
          by_cases hi : Inc (ad s)
          · simp only [hi, decide_true]
            have HI := Lib.hid hi
            clear hi
            go_wp2_with fail
            refine (zContains (w.heap.size + 2) 1 1000000 a n c s w8 HX.out (by omega) H8.out S8.out).mono ?_
            rintro e w9 ⟨rfl, hb⟩
            have B9 := Lib.hid (B8.out.trans (hb.mono B8.out.size))
            clear hb c0 c1 c2 c3
            have HE : Hid (decide (LB s 1 1000000) = R) := Lib.hid (by rw [← HR.out]; exact decide_eq_decide.2 ⟨fun h => ⟨D2.out, by rw [HX.out]; exact h64, HOL.out, lb_ok.2 (show LB s (lo false) 1000000 from h), HI.out⟩, fun h => lb_ok.1 h.2.2.2.1⟩)
            obtain ⟨q, hq⟩ : ∃ q, decide (LB s 1 1000000) = q := ⟨_, rfl⟩
            rw [hq] at HE ⊢
            clear hq
            cases q
            all_goals
              go_wp2_with fail
              go_ret
              exact ⟨ret_bool HE.out, B9.out⟩
          · simp only [hi, decide_false]
            have HE : Hid (R = false) := Lib.hid (by rw [← HR.out]; exact decide_eq_false fun h => hi h.2.2.2.2)
            clear hi
            go_wp2_with fail
            go_ret
            exact ⟨ret_bool HE.out.symm, B8.out⟩
        · have h64' : decide ((n : Int) ≤ 64) = false := decide_eq_false (by omega)
          have HE : Hid (R = false) := Lib.hid (by rw [← HR.out]; exact decide_eq_false fun h => h64 (by have := h.2.1; rw [HX.out] at this; exact this))
          clear h64
          go_wp2_with fail
          go_ret
          exact ⟨ret_bool HE.out.symm, B6.out⟩
      · have hd : decide ((0 : Int) ≤ left ∧ left ≤ 0) = false := decide_eq_false (fun h => hl (by unfold okL; simp; omega))
        rw [hd]
        have HE : Hid (R = false) := Lib.hid (by rw [← HR.out]; exact decide_eq_false fun h => hl h.2.2.1)
        clear hd hl
        go_wp2_with fail
        go_ret
        exact ⟨ret_bool HE.out.symm, B6.out⟩
  · go_wp2_with fail
    obtain ⟨wz, hwz⟩ : ∃ wz, wz = ((w.alloc (.cells #[.int .u32 g, .bool true, .int .i64 left, .slice a n c] 28)).alloc (.cells #[.int .i64 1, .int .i64 1000000] 67)).alloc (.cells #[.int .i64 0, .int .i64 1000000] 67) := ⟨_, rfl⟩
    obtain ⟨v0, gg, ss, hbz⟩ := mkSpan w g true left a n c 1 1000000 0 1000000 wz hwz
    rw [← hwz]
    have V0 := Lib.hid v0
    have G := Lib.hid gg
    have S := Lib.hid ss
    have BB := Lib.hid hbz
    have HH := Lib.hid (HH0.out.below hbz)
    clear hwz v0 gg ss hbz
    refine (zIsAsked g wz).mono ?_
    rintro e w5 ⟨rfl, rfl⟩
    rw [D2.out]
    obtain ⟨c0, c1, c2, c3, -⟩ := V0.out.cells
    obtain ⟨g0, g1⟩ := G.out
    cases ask
    · have HE : Hid (R = false) := Lib.hid (by rw [← HR.out]; exact decide_eq_false fun h => by have := h.1; rw [D2.out] at this; cases this)
      go_wp2_with fail
      go_ret
      exact ⟨ret_bool HE.out.symm, BB.out⟩
    · go_wp2_with fail
      refine (zHas 1 1000000 left wz).mono ?_
      rintro e w6 ⟨rfl, hb⟩
      have V6 := Lib.hid (V0.out.below hb V0.out.lt)
      have S6 := Lib.hid (S.out.below hb)
      have H6 := Lib.hid (HH.out.below hb)
      have B6 := Lib.hid (BB.out.trans (hb.mono BB.out.size))
      clear hb c0 c1 c2 c3 g0 g1 V0 S G HH BB
      by_cases hl : okL true left
      · have hd : decide ((1 : Int) ≤ left ∧ left ≤ 1000000) = true := decide_eq_true (by unfold okL at hl; simp at hl; omega)
        rw [hd]
        have HOL := Lib.hid hl
        clear hd hl
        obtain ⟨c0, c1, c2, c3, -⟩ := V6.out.cells
        by_cases h64 : n ≤ 64
        · have h64' : (n : Int) ≤ 64 := by omega
          go_wp2_with fail
          refine (mAddrs a n c s w6 HX.out (by omega) H6.out).mono ?_
          rintro e w7 ⟨⟨a7, c7, rfl, hA7, hf7, ho7⟩, hb⟩
          have V7 := Lib.hid (V6.out.below hb V6.out.lt)
          have S7 := Lib.hid (S6.out.below hb)
          have H7 := Lib.hid (H6.out.below hb)
          have B7 := Lib.hid (B6.out.trans (hb.mono B6.out.size))
          have A7 := Lib.hid hA7
          clear hb c0 c1 c2 c3 V6 S6 H6 B6 hA7 hf7 ho7
          go_wp2_with fail
          refine (sRight a7 _ c7 (ad s) w7 rfl (by rw [ad_len, HX.out]; omega) A7.out).mono ?_
          rintro e w8 ⟨rfl, hb⟩
          have V8 := Lib.hid (V7.out.below hb V7.out.lt)
          have S8 := Lib.hid (S7.out.below hb)
          have H8 := Lib.hid (H7.out.below hb)
          have B8 := Lib.hid (B7.out.trans (hb.mono B7.out.size))
          clear hb V7 S7 H7 B7 A7
          obtain ⟨c0, c1, c2, c3, -⟩ := V8.out.cells
          by_cases hi : Inc (ad s)
          · simp only [hi, decide_true]
            have HI := Lib.hid hi
            clear hi
            go_wp2_with fail
            refine (zContains (w.heap.size + 2) 0 1000000 a n c s w8 HX.out (by omega) H8.out S8.out).mono ?_
            rintro e w9 ⟨rfl, hb⟩
            have B9 := Lib.hid (B8.out.trans (hb.mono B8.out.size))
            clear hb c0 c1 c2 c3
            have HE : Hid (decide (LB s 0 1000000) = R) := Lib.hid (by rw [← HR.out]; exact decide_eq_decide.2 ⟨fun h => ⟨D2.out, by rw [HX.out]; exact h64, HOL.out, lb_ok.2 (show LB s (lo true) 1000000 from h), HI.out⟩, fun h => lb_ok.1 h.2.2.2.1⟩)
            obtain ⟨q, hq⟩ : ∃ q, decide (LB s 0 1000000) = q := ⟨_, rfl⟩
            rw [hq] at HE ⊢
            clear hq
            cases q
            all_goals
              go_wp2_with fail
              go_ret
              exact ⟨ret_bool HE.out, B9.out⟩
          · simp only [hi, decide_false]
            have HE : Hid (R = false) := Lib.hid (by rw [← HR.out]; exact decide_eq_false fun h => hi h.2.2.2.2)
            clear hi
            go_wp2_with fail
            go_ret
            exact ⟨ret_bool HE.out.symm, B8.out⟩
        · have h64' : decide ((n : Int) ≤ 64) = false := decide_eq_false (by omega)
          have HE : Hid (R = false) := Lib.hid (by rw [← HR.out]; exact decide_eq_false fun h => h64 (by have := h.2.1; rw [HX.out] at this; exact this))
          clear h64
          go_wp2_with fail
          go_ret
          exact ⟨ret_bool HE.out.symm, B6.out⟩
      · have hd : decide ((1 : Int) ≤ left ∧ left ≤ 1000000) = false := decide_eq_false (fun h => hl (by unfold okL; simp; omega))
        rw [hd]
        have HE : Hid (R = false) := Lib.hid (by rw [← HR.out]; exact decide_eq_false fun h => hl h.2.2.1)
        clear hd hl
        go_wp2_with fail
        go_ret
        exact ⟨ret_bool HE.out.symm, B6.out⟩
end Go.Proofs.YtllpmepmgnnoaaaGreat
