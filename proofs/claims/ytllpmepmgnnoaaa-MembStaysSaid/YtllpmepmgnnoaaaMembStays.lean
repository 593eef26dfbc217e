/- The law MembStays: every call returns true, and its arguments read behind the call as before it. Condition: none but the row's own. -/
import Derived.Test.YtllpmepmgnnoaaaY14
namespace Go.Proofs.Ytllpmepmgnnoaaa.membStays
set_option linter.unusedVariables false
open Go.ChangeShapes Go.WideShapes Go.ChangeAt Go.RowKit
open Go.ChangeMaps (open_string shut_string)

def syV (N B : Nat) (g : Int) (xA : Bool) (lA : Int) (aA : Option Addr) (nA cA : Nat) (t u : Int) (x1 : Bool) (l1 : Int) (s1 : List Hd) (x2 : Bool) (l2 : Int) (s2 : List Hd) (W0 : World) : Nat → Value → List Value → World → Prop
  | 0, v, _, _ => v = .agg #[.int .u32 g, .bool xA, .int .i64 lA, .slice aA nA cA]
  | 1, v, _, _ => v = .pointer (some ⟨N, 0, none⟩)
  | 2, v, _, _ => v = .int .i64 t
  | 3, v, _, w => ∃ (a3 : Option Addr) (c3 : Nat), v = .agg #[.int .u32 g, .bool x1, .int .i64 l1, .slice a3 s1.length c3] ∧ Hs w a3 s1
  | 4, v, _, _ => v = .pointer (some ⟨N, 1, none⟩)
  | 5, v, _, _ => v = .int .i64 u
  | 6, v, _, w => ∃ (a4 : Option Addr) (c4 : Nat), v = .agg #[.int .u32 g, .bool x2, .int .i64 l2, .slice a4 s2.length c4] ∧ Hs w a4 s2
  | 7, v, _, w => ∃ (B12 : Nat), v = .pointer (some ⟨B12, 0, none⟩) ∧ MV w B12 0 false 0 none 0 0 ∧ W0.heap.size ≤ B12
  | 8, v, us, w => ∃ (B12 : Nat) (u2 : Value) (a4 : Option Addr) (c4 : Nat), us = [.pointer (some ⟨B12, 0, none⟩), u2] ∧ MV w B12 g x2 l2 a4 s2.length c4 ∧ Hs w a4 s2 ∧ W0.heap.size ≤ B12 ∧ ∃ W, Below W0.heap.size W0 W ∧ But1 B12 W w
  | _, _, _, _ => True
def syD : Nat → List Nat
  | 2 => [1]
  | 3 => [0, 2]
  | 5 => [4]
  | 6 => [3, 5]
  | 8 => [7, 6]
  | _ => []
theorem sy_st (N B : Nat) (g : Int) (xA : Bool) (lA : Int) (aA : Option Addr) (nA cA : Nat) (t u : Int) (x1 : Bool) (l1 : Int) (s1 : List Hd) (x2 : Bool) (l2 : Int) (s2 : List Hd) (W0 : World) {i : Nat} {v : Value} {us : List Value} {w w' : World} (h8 : i ≠ 8) (hr : Below w.heap.size w w') (hv : syV N B g xA lA aA nA cA t u x1 l1 s1 x2 l2 s2 W0 i v us w) : syV N B g xA lA aA nA cA t u x1 l1 s1 x2 l2 s2 W0 i v us w' := by
  unfold syV at hv ⊢
  split at hv
  all_goals first
    | exact hv
    | (obtain ⟨x, y, e, h⟩ := hv; exact ⟨x, y, e, h.below hr⟩)
    | (obtain ⟨x, e, h, k⟩ := hv; exact ⟨x, e, h.below hr h.lt, k⟩)
    | exact absurd rfl h8
def szV (N : Nat) (g : Int) (xA : Bool) (lA : Int) (aA : Option Addr) (nA cA : Nat) (t u : Int) (x2 : Bool) (l2 : Int) (a4 : Option Addr) (n2 c4 : Nat) (s2 : List Hd) (ex : Bool) (left : Int) (a : Option Addr) (n c : Nat) (s : List Hd) : Nat → Value → List Value → World → Prop
  | 0, v, _, _ => v = .bool true
  | 1, v, _, _ => v = .bool true
  | 2, v, _, _ => v = .agg #[.int .u32 g, .bool xA, .int .i64 lA, .slice aA nA cA]
  | 3, v, _, _ => v = .bool true
  | 4, v, _, _ => v = .bool true
  | 5, v, _, _ => v = .bool true
  | 6, v, _, _ => v = .agg #[.int .u32 g, .bool x2, .int .i64 l2, .slice a4 n2 c4]
  | 7, v, _, _ => v = .bool true
  | 8, v, _, _ => v = .bool true
  | 9, v, _, _ => v = .bool true
  | 10, v, _, _ => v = .agg #[.int .u32 g, .bool x2, .int .i64 l2, .slice a4 n2 c4]
  | 11, v, _, _ => v = .agg #[.int .u32 g, .bool xA, .int .i64 lA, .slice aA nA cA]
  | 12, v, _, _ => v = .pointer (some ⟨N + 3, 0, none⟩)
  | 13, v, _, _ => v = .int .i64 t
  | 14, v, _, _ => v = .pointer (some ⟨N + 3, 1, none⟩)
  | 15, v, _, _ => v = .int .i64 u
  | 16, v, _, _ => v = .int .i64 (t + u)
  | 17, v, _, w => ∃ (a17 : Option Addr) (c17 : Nat), v = .agg #[.int .u32 g, .bool x2, .int .i64 l2, .slice a17 s2.length c17] ∧ Hs w a17 s2
  | 18, v, _, _ => v = .bool true
  | 19, v, _, _ => v = .bool true
  | 20, v, _, _ => v = .bool true
  | 21, v, _, _ => v = .agg #[.int .u32 g, .bool ex, .int .i64 left, .slice a n c]
  | 22, v, _, w => ∃ (a22 : Option Addr) (c22 : Nat), v = .agg #[.int .u32 g, .bool ex, .int .i64 left, .slice a22 s.length c22] ∧ Hs w a22 s
  | 23, v, _, _ => v = .agg #[.int .u32 g, .bool ex, .int .i64 left, .slice a n c]
  | 24, v, _, _ => v = .bool true
  | 25, v, _, _ => v = .bool true
  | 26, v, _, _ => v = .bool true
  | _, _, _, _ => True
def szD : Nat → List Nat
  | 1 => [0]
  | 2 => [1]
  | 3 => [2, 1]
  | 4 => [1, 3]
  | 5 => [4]
  | 6 => [5]
  | 7 => [6, 5]
  | 8 => [5, 7]
  | 9 => [8]
  | 10 => [9]
  | 11 => [9]
  | 12 => [9]
  | 13 => [12, 9]
  | 14 => [9]
  | 15 => [14, 9]
  | 16 => [13, 15, 9]
  | 17 => [11, 16, 9]
  | 18 => [10, 17, 9]
  | 19 => [9, 18]
  | 20 => [19]
  | 21 => [20]
  | 22 => [21, 20]
  | 23 => [20]
  | 24 => [22, 23, 20]
  | 25 => [20, 24]
  | 26 => [25]
  | _ => []
theorem sz_st (N : Nat) (g : Int) (xA : Bool) (lA : Int) (aA : Option Addr) (nA cA : Nat) (t u : Int) (x2 : Bool) (l2 : Int) (a4 : Option Addr) (n2 c4 : Nat) (s2 : List Hd) (ex : Bool) (left : Int) (a : Option Addr) (n c : Nat) (s : List Hd) {i : Nat} {v : Value} {us : List Value} {w w' : World}  (hr : Below w.heap.size w w') (hv : szV N g xA lA aA nA cA t u x2 l2 a4 n2 c4 s2 ex left a n c s i v us w) : szV N g xA lA aA nA cA t u x2 l2 a4 n2 c4 s2 ex left a n c s i v us w' := by
  unfold szV at hv ⊢
  split at hv
  all_goals first
    | exact hv
    | (obtain ⟨a17, c17, e, h17⟩ := hv; exact ⟨a17, c17, e, h17.below hr⟩)
    | (obtain ⟨a22, c22, e, h22⟩ := hv; exact ⟨a22, c22, e, h22.below hr⟩)
theorem mkLaw4 (w : World) (cs : Array Value) (T : TypeId) (kp la g : Int) (ex : Bool) (left : Int) (a : Option Addr) (n c : Nat) (t u : Int) (W : World)
    (hW : W = (((w.alloc (.cells cs T)).alloc (.cells #[.int .i64 kp, .int .i64 la] 45)).alloc (.cells #[.int .u32 g, .bool ex, .int .i64 left, .slice a n c] 48)).alloc (.cells #[.int .i64 t, .int .i64 u] 49)) :
    TC W (w.heap.size + 1) kp la ∧ MV W (w.heap.size + 2) g ex left a n c ∧ TC W (w.heap.size + 3) t u ∧ Below w.heap.size w W := by
  subst hW
  obtain ⟨h1, h2, h3⟩ := mkLaw w cs T kp la g ex left a n c _ rfl
  have e3 : (((w.alloc (.cells cs T)).alloc (.cells #[.int .i64 kp, .int .i64 la] 45)).alloc (.cells #[.int .u32 g, .bool ex, .int .i64 left, .slice a n c] 48)).heap.size = w.heap.size + 3 := by rw [World.size_alloc, World.size_alloc, World.size_alloc]
  have l0 := Go.Deep.blk_alloc_new (((w.alloc (.cells cs T)).alloc (.cells #[.int .i64 kp, .int .i64 la] 45)).alloc (.cells #[.int .u32 g, .bool ex, .int .i64 left, .slice a n c] 48)) (.cells #[.int .i64 t, .int .i64 u] 49)
  rw [e3] at l0
  exact ⟨h1.below (bel1 _ _), h2.keep _, ⟨by simp only [World.cell?, l0]; rfl, by simp only [World.cell?, l0]; rfl⟩, h3.alloc (by rw [e3]; omega) _⟩
set_option linter.unusedSimpArgs false in
set_option maxRecDepth 100000 in
set_option maxHeartbeats 16000000 in
theorem walk (w : World) (kp la g : Int) (ex : Bool) (left : Int) (a : Option Addr) (c : Nat) (s : List Hd) (kind : Int) (b : Option Addr) (cb : Nat) (xs : List Int) (t u : Int) (hs : Hs w a s) (hn : List.length s ≤ 1125899906842624) (hnil : a = none → c = 0) (hg : 0 ≤ g ∧ g ≤ 4294967295) (ha : As w b xs) (hna : List.length xs ≤ 1125899906842624) (hnila : b = none → cb = 0) (ht : -9223372036854775808 ≤ t ∧ t ≤ 9223372036854775807) (hu : -9223372036854775808 ≤ u ∧ u ≤ 9223372036854775807) :
    Calls Try.prog 4 #[.agg #[.int .i64 kp, .int .i64 la, .int .u32 g, .bool ex, .int .i64 left, .slice a (List.length s) c, .int .u8 kind, .slice b (List.length xs) cb, .int .i64 t, .int .i64 u]] w fun e w' => e = .returned (.bool true) ∧ Below w.heap.size w w' := by
  obtain ⟨n, hn1⟩ : ∃ n, s.length = n := ⟨_, rfl⟩
  obtain ⟨ln, hln⟩ : ∃ ln, xs.length = ln := ⟨_, rfl⟩
  rw [hn1] at hn ⊢
  rw [hln] at hna ⊢
  have HX := Lib.hid hn1
  have HL := Lib.hid hln
  have HNIL := Lib.hid hnil
  have HNILA := Lib.hid hnila
  have HG := Lib.hid hg
  obtain ⟨w1, hw1⟩ : ∃ w1, w1 = (((w.alloc (.cells #[.int .i64 kp, .int .i64 la, .int .u32 g, .bool ex, .int .i64 left, .slice a n c, .int .u8 kind, .slice b ln cb, .int .i64 t, .int .i64 u] 51)).alloc (.cells #[.int .i64 kp, .int .i64 la] 45)).alloc (.cells #[.int .u32 g, .bool ex, .int .i64 left, .slice a n c] 48)).alloc (.cells #[.int .i64 t, .int .i64 u] 49) := ⟨_, rfl⟩
  obtain ⟨tc, mv, nv, hb⟩ := mkLaw4 w _ _ kp la g ex left a n c t u w1 hw1
  have BB := Lib.hid hb
  have TT := Lib.hid tc
  have VM := Lib.hid mv
  have NV := Lib.hid nv
  have SM := Lib.hid (hs.below hb)
  have SL := Lib.hid (ha.below hb)
  clear hn1 hln hnil hnila hg tc mv nv hb hs ha ht hu
  go_enter Try.func4, Try.ntmps4
  go_wp2_with fail
  rw [← hw1]
  clear hw1
  refine (mShown w1).mono ?_
  rintro e w101 ⟨rfl, hb⟩
  have BB := Lib.hid (BB.out.trans (hb.mono BB.out.size))
  have SM := Lib.hid (SM.out.below hb)
  have SL := Lib.hid (SL.out.below hb)
  have TT := Lib.hid (TT.out.below hb)
  have VM := Lib.hid (VM.out.below hb VM.out.lt)
  have NV := Lib.hid (NV.out.below hb)
  clear hb
  obtain ⟨TT0, TT1⟩ := TT.out
  obtain ⟨VM0, VM1, VM2, VM3, -⟩ := VM.out.cells
  obtain ⟨NV0, NV1⟩ := NV.out
  go_wp2_with fail
  refine (rMay8 kp la _).mono ?_
  rintro e w102 ⟨rfl, hb⟩
  clear TT0 TT1 VM0 VM1 VM2 VM3 NV0 NV1
  have BB := Lib.hid (BB.out.trans (hb.mono BB.out.size))
  have SM := Lib.hid (SM.out.below hb)
  have SL := Lib.hid (SL.out.below hb)
  have TT := Lib.hid (TT.out.below hb)
  have VM := Lib.hid (VM.out.below hb VM.out.lt)
  have NV := Lib.hid (NV.out.below hb)
  clear hb
  by_cases q1 : mayP kp la
  · rw [decide_eq_true q1]
    have MAY := Lib.hid q1
    clear q1
    obtain ⟨TT0, TT1⟩ := TT.out
    obtain ⟨VM0, VM1, VM2, VM3, -⟩ := VM.out.cells
    obtain ⟨NV0, NV1⟩ := NV.out
    go_wp2_with fail
    refine (rRight8 g ex left a n c s _ HX.out SM.out (by omega)).mono ?_
    rintro e w103 ⟨rfl, hb⟩
    clear TT0 TT1 VM0 VM1 VM2 VM3 NV0 NV1
    have BB := Lib.hid (BB.out.trans (hb.mono BB.out.size))
    have SM := Lib.hid (SM.out.below hb)
    have SL := Lib.hid (SL.out.below hb)
    have TT := Lib.hid (TT.out.below hb)
    have VM := Lib.hid (VM.out.below hb VM.out.lt)
    have NV := Lib.hid (NV.out.below hb)
    clear hb
    by_cases q2 : okM g ex left s
    · rw [decide_eq_true q2]
      have OK := Lib.hid q2
      have TB := Lib.hid (may_T MAY.out q2 HG.out)
      have hn64 : n ≤ 64 := by have := q2.2.1; rw [HX.out] at this; exact this
      clear q2
      by_cases q3 : ln ≤ 200
      · have q3' : decide ((200 : Int) < (ln : Int)) = false := decide_eq_false (by omega)
        by_cases q4 : t < 0
        · obtain ⟨TT0, TT1⟩ := TT.out
          obtain ⟨VM0, VM1, VM2, VM3, -⟩ := VM.out.cells
          obtain ⟨NV0, NV1⟩ := NV.out
          go_wp2_with fail
          go_ret
          exact ⟨rfl, BB.out⟩
        · have q4' : decide (t < 0) = false := decide_eq_false q4
          by_cases q5 : u < 0
          · obtain ⟨TT0, TT1⟩ := TT.out
            obtain ⟨VM0, VM1, VM2, VM3, -⟩ := VM.out.cells
            obtain ⟨NV0, NV1⟩ := NV.out
            go_wp2_with fail
            go_ret
            exact ⟨rfl, BB.out⟩
          · have q5' : decide (u < 0) = false := decide_eq_false q5
            by_cases q6 : 1000000000 < t
            · obtain ⟨TT0, TT1⟩ := TT.out
              obtain ⟨VM0, VM1, VM2, VM3, -⟩ := VM.out.cells
              obtain ⟨NV0, NV1⟩ := NV.out
              go_wp2_with fail
              go_ret
              exact ⟨rfl, BB.out⟩
            · have q6' : decide (1000000000 < t) = false := decide_eq_false q6
              by_cases q7 : 1000000000 < u
              · obtain ⟨TT0, TT1⟩ := TT.out
                obtain ⟨VM0, VM1, VM2, VM3, -⟩ := VM.out.cells
                obtain ⟨NV0, NV1⟩ := NV.out
                go_wp2_with fail
                go_ret
                exact ⟨rfl, BB.out⟩
              · have q7' : decide (1000000000 < u) = false := decide_eq_false q7
                have HT0 : Hid (0 ≤ t ∧ t ≤ 1000000000) := Lib.hid (by omega)
                have HU0 : Hid (0 ≤ u ∧ u ≤ 1000000000) := Lib.hid (by omega)
                clear q4 q5 q6 q7
                obtain ⟨TT0, TT1⟩ := TT.out
                obtain ⟨VM0, VM1, VM2, VM3, -⟩ := VM.out.cells
                obtain ⟨NV0, NV1⟩ := NV.out
                go_wp2_with fail
                refine (mHear kind kp la g ex left a n c s b ln cb xs _ HX.out hn64 SM.out HNIL.out OK.out.inc HL.out q3 SL.out HNILA.out TB.out).mono ?_
                rintro e w104 ⟨⟨aA, cA, aaA, ccA, rsA, rfl, hA, mA, qA⟩, hb⟩
                clear TT0 TT1 VM0 VM1 VM2 VM3 NV0 NV1
                have BB := Lib.hid (BB.out.trans (hb.mono BB.out.size))
                have SM := Lib.hid (SM.out.below hb)
                have SL := Lib.hid (SL.out.below hb)
                have TT := Lib.hid (TT.out.below hb)
                have VM := Lib.hid (VM.out.below hb VM.out.lt)
                have NV := Lib.hid (NV.out.below hb)
                clear hb
                have HRA := Lib.hid (hear_ok kind xs MAY.out OK.out)
                have SSA := Lib.hid hA.1
                have MMA := Lib.hid mA
                have QQA := Lib.hid qA
                clear hA mA qA
                obtain ⟨rA, hrA⟩ : ∃ r, hearP g kp la ex left s kind xs = r := ⟨_, rfl⟩
                rw [hrA] at HRA SSA MMA  ⊢
                clear hrA
                obtain ⟨xA, lA, sA, qqA, eA⟩ := rA
                simp only at HRA SSA MMA  ⊢
                obtain ⟨nA, hnnA⟩ : ∃ nn, sA.length = nn := ⟨_, rfl⟩
                have NNA := Lib.hid hnnA
                rw [hnnA]
                clear hnnA
                obtain ⟨nqA, hnqA⟩ : ∃ nn, List.length rsA = nn := ⟨_, rfl⟩
                have NQA := Lib.hid hnqA
                rw [hnqA]
                clear hnqA
                have hbn := bel1 w104 (.cells #[.int .u32 g, .bool xA, .int .i64 lA, .slice aA nA cA] 48)
                have VAn := MV.new w104 g xA lA aA nA cA
                have BB := Lib.hid (BB.out.trans (hbn.mono BB.out.size))
                have SM := Lib.hid (SM.out.below hbn)
                have SL := Lib.hid (SL.out.below hbn)
                have SSA := Lib.hid (SSA.out.below hbn)
                have QQA := Lib.hid (QQA.out.below hbn)
                have TT := Lib.hid (TT.out.below hbn)
                have VM := Lib.hid (VM.out.below hbn VM.out.lt)
                have NV := Lib.hid (NV.out.below hbn)
                clear hbn
                have VA := Lib.hid VAn
                clear VAn
                obtain ⟨x1, hx1⟩ : ∃ l, tkE xA lA t = l := ⟨_, rfl⟩
                obtain ⟨l1, hl1⟩ : ∃ l, max (lA - t) 0 = l := ⟨_, rfl⟩
                obtain ⟨s1, hs1⟩ : ∃ l, tkS xA lA sA t = l := ⟨_, rfl⟩
                have HR1 : Hid (okM g x1 l1 s1) := Lib.hid (by rw [← hx1, ← hl1, ← hs1]; exact tick_ok HRA.out HT0.out.1)
                obtain ⟨x2, hx2⟩ : ∃ l, tkE x1 l1 u = l := ⟨_, rfl⟩
                obtain ⟨l2, hl2⟩ : ∃ l, max (l1 - u) 0 = l := ⟨_, rfl⟩
                obtain ⟨s2, hs2⟩ : ∃ l, tkS x1 l1 s1 u = l := ⟨_, rfl⟩
                have HR2 : Hid (okM g x2 l2 s2) := Lib.hid (by rw [← hx2, ← hl2, ← hs2]; exact tick_ok HR1.out HU0.out.1)
                have T1 : Hid (max t 0 = t ∧ tkE xA lA t = x1 ∧ max (lA - t) 0 = l1 ∧ tkS xA lA sA t = s1) := Lib.hid ⟨by have := HT0.out; omega, hx1, hl1, hs1⟩
                have T2 : Hid (max u 0 = u ∧ tkE x1 l1 u = x2 ∧ max (l1 - u) 0 = l2 ∧ tkS x1 l1 s1 u = s2) := Lib.hid ⟨by have := HU0.out; omega, hx2, hl2, hs2⟩
                have T3 : Hid (max (t + u) 0 = t + u ∧ tkE xA lA (t + u) = x2 ∧ max (lA - (t + u)) 0 = l2 ∧ tkS xA lA sA (t + u) = s2) := Lib.hid ⟨by have := HT0.out; have := HU0.out; omega, by rw [← hx2, ← hx1, ← hl1, tk_addE HT0.out.1 HU0.out.1], by rw [← hl2, ← hl1, tk_addL HT0.out.1 HU0.out.1], by rw [← hs2, ← hx1, ← hl1, ← hs1, tk_addS HRA.out.inc HRA.out.nn HT0.out.1 HU0.out.1]⟩
                have T4 : Hid (max (0 : Int) 0 = 0 ∧ tkE ex left 0 = ex ∧ max (left - 0) 0 = left ∧ tkS ex left s 0 = s) := Lib.hid ⟨by omega, tk_zero OK.out⟩
                have TW : Hid (IntKind.i64.wrap (t + u) = t + u) := Lib.hid (vwrap (by have := HT0.out; have := HU0.out; omega) (by have := HT0.out; have := HU0.out; omega))
                clear hx1 hl1 hs1 hx2 hl2 hs2
                obtain ⟨TT0, TT1⟩ := TT.out
                obtain ⟨VM0, VM1, VM2, VM3, -⟩ := VM.out.cells
                obtain ⟨NV0, NV1⟩ := NV.out
                obtain ⟨VA0, VA1, VA2, VA3, -⟩ := VA.out.cells
                go_wp2_with fail
                generalize w104.alloc (.cells #[.int .u32 g, .bool xA, .int .i64 lA, .slice aA nA cA] 48) = w105 at *
                clear TT0 TT1 VM0 VM1 VM2 VM3 NV0 NV1 VA0 VA1 VA2 VA3
                refine wp_region_last (syV (w.heap.size + 3) w104.heap.size g xA lA aA nA cA t u x1 l1 s1 x2 l2 s2 w105) (fun W => Below w105.heap.size w105 W) (fun _ A B => Below A.heap.size A B) syD [67, 68, 69, 70, 71, 72, 73, 12] (by kernel_rfl) (by kernel_rfl) (by kernel_rfl) (by kernel_rfl) (by kernel_rfl) (by decide) (Below.refl _ w105).drew
                  (fun i j oi oj v us A B hoi hoj hij hni hw hSA hr hv => sy_st _ _ _ _ _ _ _ _ _ _ _ _ _ _ _ _ _ (fun e => hni (by subst e; rfl)) hr hv)
                  ⟨?_, ?_, ?_, ?_, ?_, ?_, ?_, ?_, ?_, trivial⟩ ?hend
                case refine_1 =>
                  intro a' w9 hS h0 hd
                  have e9 : a'.tmps[9]?.getD undef = .pointer (some ⟨w104.heap.size, 0, none⟩) := vev (h0 9 (by kernel_rfl))
                  obtain ⟨y0, y1, y2, y3, -⟩ := (VA.out.below hS VA.out.lt).cells
                  refine Does2.value (.agg #[.int .u32 g, .bool xA, .int .i64 lA, .slice aA nA cA]) (w' := w9) ?_ ⟨rfl, fun _ => ⟨hS, Below.refl _ _⟩⟩
                  clear hS h0 hd
                  go_simp
                case refine_2 =>
                  intro a' w9 hS h0 hd
                  have e7 : a'.tmps[7]?.getD undef = .pointer (some ⟨w.heap.size + 3, 0, none⟩) := vev (h0 7 (by kernel_rfl))
                  refine Does2.value (.pointer (some ⟨w.heap.size + 3, 0, none⟩)) (w' := w9) ?_ ⟨rfl, fun _ => ⟨hS, Below.refl _ _⟩⟩
                  clear hS h0 hd
                  go_simp
                case refine_3 =>
                  intro a' w9 hS h0 hd
                  have e68 : a'.tmps[68]?.getD undef = .pointer (some ⟨w.heap.size + 3, 0, none⟩) := vev (hd 1 List.mem_cons_self)
                  obtain ⟨y0, y1⟩ := NV.out.below hS
                  refine Does2.value (.int .i64 t) (w' := w9) ?_ ⟨rfl, fun _ => ⟨hS, Below.refl _ _⟩⟩
                  clear hS h0 hd
                  go_simp
                case refine_4 =>
                  intro a' w9 hS h0 hd
                  have e67 : a'.tmps[67]?.getD undef = .agg #[.int .u32 g, .bool xA, .int .i64 lA, .slice aA nA cA] := vev (hd 0 List.mem_cons_self)
                  have e69 : a'.tmps[69]?.getD undef = .int .i64 t := vev (hd 2 (List.mem_cons_of_mem _ List.mem_cons_self))
                  refine Does2.call 29 #[.agg #[.int .u32 g, .bool xA, .int .i64 lA, .slice aA nA cA], .int .i64 t] (w' := w9) ?_ ((mTick g xA lA aA nA cA sA t w9 NNA.out (by have := HRA.out.2.1; rw [NNA.out] at this; omega) (SSA.out.below hS) (fun y hy => by have := (HRA.out.lb.weak (lo_nn _)) y hy; omega) (by have := HRA.out.left; omega) (by have := HT0.out; omega)).mono ?_)
                  · clear hS h0 hd
                    go_simp
                  · rintro e w8 ⟨⟨a8, c8, rfl, h8⟩, hb⟩
                    rw [T1.out.1, T1.out.2.2.2] at h8
                    rw [T1.out.1, T1.out.2.1, T1.out.2.2.1, T1.out.2.2.2]
                    exact ⟨_, rfl, ⟨a8, c8, rfl, h8.1⟩, fun _ => ⟨hS.trans (hb.mono hS.size), hb⟩⟩
                case refine_5 =>
                  intro a' w9 hS h0 hd
                  have e7 : a'.tmps[7]?.getD undef = .pointer (some ⟨w.heap.size + 3, 0, none⟩) := vev (h0 7 (by kernel_rfl))
                  refine Does2.value (.pointer (some ⟨w.heap.size + 3, 1, none⟩)) (w' := w9) ?_ ⟨rfl, fun _ => ⟨hS, Below.refl _ _⟩⟩
                  clear hS h0 hd
                  go_simp
                case refine_6 =>
                  intro a' w9 hS h0 hd
                  have e71 : a'.tmps[71]?.getD undef = .pointer (some ⟨w.heap.size + 3, 1, none⟩) := vev (hd 4 List.mem_cons_self)
                  obtain ⟨y0, y1⟩ := NV.out.below hS
                  refine Does2.value (.int .i64 u) (w' := w9) ?_ ⟨rfl, fun _ => ⟨hS, Below.refl _ _⟩⟩
                  clear hS h0 hd
                  go_simp
                case refine_7 =>
                  intro a' w9 hS h0 hd
                  obtain ⟨a3, c3, e70, h3⟩ := hd 3 List.mem_cons_self
                  replace e70 := vev e70
                  have e72 : a'.tmps[72]?.getD undef = .int .i64 u := vev (hd 5 (List.mem_cons_of_mem _ List.mem_cons_self))
                  refine Does2.call 29 #[.agg #[.int .u32 g, .bool x1, .int .i64 l1, .slice a3 s1.length c3], .int .i64 u] (w' := w9) ?_ ((mTick g x1 l1 a3 _ c3 s1 u w9 rfl (by have := HR1.out.2.1; omega) h3 (fun y hy => by have := (HR1.out.lb.weak (lo_nn _)) y hy; omega) (by have := HR1.out.left; omega) (by have := HU0.out; omega)).mono ?_)
                  · clear hS h0 hd h3
                    go_simp
                  · rintro e w8 ⟨⟨a8, c8, rfl, h8⟩, hb⟩
                    rw [T2.out.1, T2.out.2.2.2] at h8
                    rw [T2.out.1, T2.out.2.1, T2.out.2.2.1, T2.out.2.2.2]
                    exact ⟨_, rfl, ⟨a8, c8, rfl, h8.1⟩, fun _ => ⟨hS.trans (hb.mono hS.size), hb⟩⟩
                case refine_8 =>
                  intro a' w9 hS h0 hd
                  refine Does2.value (.pointer (some ⟨w9.heap.size, 0, none⟩)) (w' := w9.alloc (.cells #[.int .u32 0, .bool false, .int .i64 0, .slice none 0 0] 48)) ?_ ⟨⟨w9.heap.size, rfl, MV.new w9 0 false 0 none 0 0, hS.size⟩, fun _ => ⟨hS.alloc hS.size _, bel1 w9 _⟩⟩
                  clear hS h0 hd
                  go_simp
                case refine_9 =>
                  intro a' w9 hS h0 hd
                  obtain ⟨B12, e12, v12, k12⟩ := hd 7 List.mem_cons_self
                  replace e12 := vev e12
                  obtain ⟨a4, c4, e73, h4⟩ := hd 6 (List.mem_cons_of_mem _ List.mem_cons_self)
                  replace e73 := vev e73
                  obtain ⟨d0, d1, d2, d3, e0, e1, e2, e3⟩ := v12.cells
                  have hst := v12.store g x2 l2 a4 s2.length c4
                  have hbt := v12.store_but g x2 l2 a4 s2.length c4
                  have hfr := h4.other v12.noH hbt
                  have q12 : a'.eval (.tmp 12) = .pointer (some ⟨B12, 0, none⟩) := by simp [Act.eval, e12]
                  refine Does2.skip (w' := (((w9.setCell ⟨B12, 0, none⟩ (.int .u32 g)).setCell ⟨B12, 1, none⟩ (.bool x2)).setCell ⟨B12, 2, none⟩ (.int .i64 l2)).setCell ⟨B12, 3, none⟩ (.slice a4 s2.length c4)) ?_ ⟨⟨B12, a'.eval (.tmp 73), a4, c4, ?_, hst, hfr, k12, w9, hS, hbt⟩, fun h => absurd rfl h⟩
                  · clear hS h0 hd h4 hst hbt v12 hfr q12
                    go_simp
                  · show [a'.eval (.tmp 12), a'.eval (.tmp 73)] = _
                    rw [q12]
                case hend =>
                  intro f wE hv
                  obtain ⟨B12, u2, a4, c4, hu2, hst, h4, k12, W, hbW, hbt⟩ := hv
                  replace hu2 : [f 12, f 73] = [.pointer (some ⟨B12, 0, none⟩), u2] := hu2
                  simp only [List.cons.injEq, and_true] at hu2
                  obtain ⟨v12, -⟩ := hu2
                  simp only [putAll, Act.put, List.setIfInBounds_toArray, List.set_cons_zero, List.set_cons_succ, v12]
                  have hS := hbW.trans (hbt.below k12 hbW.size)
                  have BB := Lib.hid (BB.out.trans (hS.mono BB.out.size))
                  have SM := Lib.hid (SM.out.below hS)
                  have SL := Lib.hid (SL.out.below hS)
                  have SSA := Lib.hid (SSA.out.below hS)
                  have TT := Lib.hid (TT.out.below hS)
                  have VM := Lib.hid (VM.out.below hS VM.out.lt)
                  have NV := Lib.hid (NV.out.below hS)
                  have VA := Lib.hid (VA.out.below hS VA.out.lt)
                  have VX := Lib.hid hst
                  have SSX := Lib.hid h4
                  clear hst h4 k12 hbW hbt hS v12 QQA
                  obtain ⟨n2, hn2⟩ : ∃ k, s2.length = k := ⟨_, rfl⟩
                  have N2 := Lib.hid hn2
                  rw [hn2] at VX
                  clear hn2
                  obtain ⟨TT0, TT1⟩ := TT.out
                  obtain ⟨VM0, VM1, VM2, VM3, -⟩ := VM.out.cells
                  obtain ⟨NV0, NV1⟩ := NV.out
                  obtain ⟨VA0, VA1, VA2, VA3, -⟩ := VA.out.cells
                  obtain ⟨VX0, VX1, VX2, VX3, -⟩ := VX.out.cells
                  go_wp2_with fail
                  clear TT0 TT1 VM0 VM1 VM2 VM3 NV0 NV1 VA0 VA1 VA2 VA3 VX0 VX1 VX2 VX3
                  refine wp_region_each3 (szV w.heap.size g xA lA aA nA cA t u x2 l2 a4 n2 c4 s2 ex left a n c s) (fun W => Below wE.heap.size wE W) (fun _ A B => Below A.heap.size A B) szD [74, 75, 76, 77, 78, 79, 80, 81, 82, 83, 84, 85, 86, 87, 88, 89, 90, 91, 92, 93, 94, 95, 96, 97, 98, 99, 2] (by kernel_rfl) (by kernel_rfl) (by kernel_rfl) (Below.refl _ wE).drew
                    (fun i j oi oj v us A B hoi hoj hij hw hSA hr hv => sz_st _ _ _ _ _ _ _ _ _ _ _ _ _ _ _ _ _ _ _ _ _ hr hv) ?hgd
                    ⟨?_, ?_, ?_, ?_, ?_, ?_, ?_, ?_, ?_, ?_, ?_, ?_, ?_, ?_, ?_, ?_, ?_, ?_, ?_, ?_, ?_, ?_, ?_, ?_, ?_, ?_, ?_, trivial⟩ ?hend
                  case hgd =>
                    intro i o g b hoi hog v us w hv
                    have hi : i < 27 := (Array.getElem?_eq_some_iff.1 hoi).1
                    have hc : i = 0 ∨ i = 1 ∨ i = 2 ∨ i = 3 ∨ i = 4 ∨ i = 5 ∨ i = 6 ∨ i = 7 ∨ i = 8 ∨ i = 9 ∨ i = 10 ∨ i = 11 ∨ i = 12 ∨ i = 13 ∨ i = 14 ∨ i = 15 ∨ i = 16 ∨ i = 17 ∨ i = 18 ∨ i = 19 ∨ i = 20 ∨ i = 21 ∨ i = 22 ∨ i = 23 ∨ i = 24 ∨ i = 25 ∨ i = 26 := by omega
                    rcases hc with rfl | rfl | rfl | rfl | rfl | rfl | rfl | rfl | rfl | rfl | rfl | rfl | rfl | rfl | rfl | rfl | rfl | rfl | rfl | rfl | rfl | rfl | rfl | rfl | rfl | rfl | rfl
                    · cases hoi; cases hog
                    · cases hoi; cases hog
                    · cases hoi; cases hog; exact hv
                    · cases hoi; cases hog; exact hv
                    · cases hoi; cases hog
                    · cases hoi; cases hog
                    · cases hoi; cases hog; exact hv
                    · cases hoi; cases hog; exact hv
                    · cases hoi; cases hog
                    · cases hoi; cases hog
                    · cases hoi; cases hog; exact hv
                    · cases hoi; cases hog; exact hv
                    · cases hoi; cases hog; exact hv
                    · cases hoi; cases hog; exact hv
                    · cases hoi; cases hog; exact hv
                    · cases hoi; cases hog; exact hv
                    · cases hoi; cases hog; exact hv
                    · cases hoi; cases hog; exact hv
                    · cases hoi; cases hog; exact hv
                    · cases hoi; cases hog
                    · cases hoi; cases hog
                    · cases hoi; cases hog; exact hv
                    · cases hoi; cases hog; exact hv
                    · cases hoi; cases hog; exact hv
                    · cases hoi; cases hog; exact hv
                    · cases hoi; cases hog
                    · cases hoi; cases hog
                  case refine_1 =>
                    intro a' w9 hS h0 hd
                    have e8 : a'.tmps[8]?.getD undef = .bool true := vev (h0 8 (by kernel_rfl))
                    refine Does2.value (.bool true) (w' := w9) ?_ ⟨rfl, hS, Below.refl _ _⟩
                    clear hS h0 hd
                    go_simp
                  case refine_2 =>
                    intro a' w9 hS h0 hd
                    have e74 : a'.tmps[74]?.getD undef = .bool true := vev (hd 0 List.mem_cons_self)
                    refine Does2.value (.bool true) (w' := w9) ?_ ⟨rfl, hS, Below.refl _ _⟩
                    clear hS h0 hd
                    go_simp
                  case refine_3 =>
                    intro a' w9 hS h0 hd
                    have e9 : a'.tmps[9]?.getD undef = .pointer (some ⟨w104.heap.size, 0, none⟩) := vev (h0 9 (by kernel_rfl))
                    obtain ⟨y0, y1, y2, y3, -⟩ := (VA.out.below hS VA.out.lt).cells
                    refine Does2.value (.agg #[.int .u32 g, .bool xA, .int .i64 lA, .slice aA nA cA]) (w' := w9) ?_ ⟨rfl, hS, Below.refl _ _⟩
                    clear hS h0 hd
                    go_simp
                  case refine_4 =>
                    intro a' w9 hS h0 hd
                    have e76 : a'.tmps[76]?.getD undef = .agg #[.int .u32 g, .bool xA, .int .i64 lA, .slice aA nA cA] := vev (hd 2 List.mem_cons_self)
                    refine Does2.call 27 #[.agg #[.int .u32 g, .bool xA, .int .i64 lA, .slice aA nA cA]] (w' := w9) ?_ ((rRight8 g xA lA aA nA cA sA w9 NNA.out (SSA.out.below hS) (by have := HRA.out.2.1; rw [NNA.out] at this; omega)).mono ?_)
                    · clear hS h0 hd
                      go_simp
                    · rw [decide_eq_true HRA.out]
                      rintro e w8 ⟨rfl, hb⟩
                      exact ⟨_, rfl, rfl, hS.trans (hb.mono hS.size), hb⟩
                  case refine_5 =>
                    intro a' w9 hS h0 hd
                    have e75 : a'.tmps[75]?.getD undef = .bool true := vev (hd 1 List.mem_cons_self)
                    have e77 : a'.tmps[77]?.getD undef = .bool true := vev (hd 3 (List.mem_cons_of_mem _ List.mem_cons_self))
                    refine Does2.value (.bool true) (w' := w9) ?_ ⟨rfl, hS, Below.refl _ _⟩
                    clear hS h0 hd
                    go_simp
                  case refine_6 =>
                    intro a' w9 hS h0 hd
                    have e78 : a'.tmps[78]?.getD undef = .bool true := vev (hd 4 List.mem_cons_self)
                    refine Does2.value (.bool true) (w' := w9) ?_ ⟨rfl, hS, Below.refl _ _⟩
                    clear hS h0 hd
                    go_simp
                  case refine_7 =>
                    intro a' w9 hS h0 hd
                    have e12 : a'.tmps[12]?.getD undef = .pointer (some ⟨B12, 0, none⟩) := vev (h0 12 (by kernel_rfl))
                    obtain ⟨y0, y1, y2, y3, -⟩ := (VX.out.below hS VX.out.lt).cells
                    refine Does2.value (.agg #[.int .u32 g, .bool x2, .int .i64 l2, .slice a4 n2 c4]) (w' := w9) ?_ ⟨rfl, hS, Below.refl _ _⟩
                    clear hS h0 hd
                    go_simp
                  case refine_8 =>
                    intro a' w9 hS h0 hd
                    have e80 : a'.tmps[80]?.getD undef = .agg #[.int .u32 g, .bool x2, .int .i64 l2, .slice a4 n2 c4] := vev (hd 6 List.mem_cons_self)
                    refine Does2.call 27 #[.agg #[.int .u32 g, .bool x2, .int .i64 l2, .slice a4 n2 c4]] (w' := w9) ?_ ((rRight8 g x2 l2 a4 n2 c4 s2 w9 N2.out (SSX.out.below hS) (by have := HR2.out.2.1; rw [N2.out] at this; omega)).mono ?_)
                    · clear hS h0 hd
                      go_simp
                    · rw [decide_eq_true HR2.out]
                      rintro e w8 ⟨rfl, hb⟩
                      exact ⟨_, rfl, rfl, hS.trans (hb.mono hS.size), hb⟩
                  case refine_9 =>
                    intro a' w9 hS h0 hd
                    have e79 : a'.tmps[79]?.getD undef = .bool true := vev (hd 5 List.mem_cons_self)
                    have e81 : a'.tmps[81]?.getD undef = .bool true := vev (hd 7 (List.mem_cons_of_mem _ List.mem_cons_self))
                    refine Does2.value (.bool true) (w' := w9) ?_ ⟨rfl, hS, Below.refl _ _⟩
                    clear hS h0 hd
                    go_simp
                  case refine_10 =>
                    intro a' w9 hS h0 hd
                    have e82 : a'.tmps[82]?.getD undef = .bool true := vev (hd 8 List.mem_cons_self)
                    refine Does2.value (.bool true) (w' := w9) ?_ ⟨rfl, hS, Below.refl _ _⟩
                    clear hS h0 hd
                    go_simp
                  case refine_11 =>
                    intro a' w9 hS h0 hd
                    have e12 : a'.tmps[12]?.getD undef = .pointer (some ⟨B12, 0, none⟩) := vev (h0 12 (by kernel_rfl))
                    obtain ⟨y0, y1, y2, y3, -⟩ := (VX.out.below hS VX.out.lt).cells
                    refine Does2.value (.agg #[.int .u32 g, .bool x2, .int .i64 l2, .slice a4 n2 c4]) (w' := w9) ?_ ⟨rfl, hS, Below.refl _ _⟩
                    clear hS h0 hd
                    go_simp
                  case refine_12 =>
                    intro a' w9 hS h0 hd
                    have e9 : a'.tmps[9]?.getD undef = .pointer (some ⟨w104.heap.size, 0, none⟩) := vev (h0 9 (by kernel_rfl))
                    obtain ⟨y0, y1, y2, y3, -⟩ := (VA.out.below hS VA.out.lt).cells
                    refine Does2.value (.agg #[.int .u32 g, .bool xA, .int .i64 lA, .slice aA nA cA]) (w' := w9) ?_ ⟨rfl, hS, Below.refl _ _⟩
                    clear hS h0 hd
                    go_simp
                  case refine_13 =>
                    intro a' w9 hS h0 hd
                    have e7 : a'.tmps[7]?.getD undef = .pointer (some ⟨w.heap.size + 3, 0, none⟩) := vev (h0 7 (by kernel_rfl))
                    refine Does2.value (.pointer (some ⟨w.heap.size + 3, 0, none⟩)) (w' := w9) ?_ ⟨rfl, hS, Below.refl _ _⟩
                    clear hS h0 hd
                    go_simp
                  case refine_14 =>
                    intro a' w9 hS h0 hd
                    have e86 : a'.tmps[86]?.getD undef = .pointer (some ⟨w.heap.size + 3, 0, none⟩) := vev (hd 12 List.mem_cons_self)
                    obtain ⟨y0, y1⟩ := NV.out.below hS
                    refine Does2.value (.int .i64 t) (w' := w9) ?_ ⟨rfl, hS, Below.refl _ _⟩
                    clear hS h0 hd
                    go_simp
                  case refine_15 =>
                    intro a' w9 hS h0 hd
                    have e7 : a'.tmps[7]?.getD undef = .pointer (some ⟨w.heap.size + 3, 0, none⟩) := vev (h0 7 (by kernel_rfl))
                    refine Does2.value (.pointer (some ⟨w.heap.size + 3, 1, none⟩)) (w' := w9) ?_ ⟨rfl, hS, Below.refl _ _⟩
                    clear hS h0 hd
                    go_simp
                  case refine_16 =>
                    intro a' w9 hS h0 hd
                    have e88 : a'.tmps[88]?.getD undef = .pointer (some ⟨w.heap.size + 3, 1, none⟩) := vev (hd 14 List.mem_cons_self)
                    obtain ⟨y0, y1⟩ := NV.out.below hS
                    refine Does2.value (.int .i64 u) (w' := w9) ?_ ⟨rfl, hS, Below.refl _ _⟩
                    clear hS h0 hd
                    go_simp
                  case refine_17 =>
                    intro a' w9 hS h0 hd
                    have e87 : a'.tmps[87]?.getD undef = .int .i64 t := vev (hd 13 List.mem_cons_self)
                    have e89 : a'.tmps[89]?.getD undef = .int .i64 u := vev (hd 15 (List.mem_cons_of_mem _ List.mem_cons_self))
                    have tw := TW.out
                    refine Does2.value (.int .i64 (t + u)) (w' := w9) ?_ ⟨rfl, hS, Below.refl _ _⟩
                    clear hS h0 hd
                    go_simp
                  case refine_18 =>
                    intro a' w9 hS h0 hd
                    have e85 : a'.tmps[85]?.getD undef = .agg #[.int .u32 g, .bool xA, .int .i64 lA, .slice aA nA cA] := vev (hd 11 List.mem_cons_self)
                    have e90 : a'.tmps[90]?.getD undef = .int .i64 (t + u) := vev (hd 16 (List.mem_cons_of_mem _ List.mem_cons_self))
                    refine Does2.call 29 #[.agg #[.int .u32 g, .bool xA, .int .i64 lA, .slice aA nA cA], .int .i64 (t + u)] (w' := w9) ?_ ((mTick g xA lA aA nA cA sA (t + u) w9 NNA.out (by have := HRA.out.2.1; rw [NNA.out] at this; omega) (SSA.out.below hS) (fun y hy => by have := (HRA.out.lb.weak (lo_nn _)) y hy; omega) (by have := HRA.out.left; omega) (by have := HT0.out; have := HU0.out; omega)).mono ?_)
                    · clear hS h0 hd
                      go_simp
                    · rintro e w8 ⟨⟨a8, c8, rfl, h8⟩, hb⟩
                      rw [T3.out.1, T3.out.2.2.2] at h8
                      rw [T3.out.1, T3.out.2.1, T3.out.2.2.1, T3.out.2.2.2]
                      exact ⟨_, rfl, ⟨a8, c8, rfl, h8.1⟩, hS.trans (hb.mono hS.size), hb⟩
                  case refine_19 =>
                    intro a' w9 hS h0 hd
                    have e84 : a'.tmps[84]?.getD undef = .agg #[.int .u32 g, .bool x2, .int .i64 l2, .slice a4 n2 c4] := vev (hd 10 List.mem_cons_self)
                    obtain ⟨a17, c17, e91, h17⟩ := hd 17 (List.mem_cons_of_mem _ List.mem_cons_self)
                    replace e91 := vev e91
                    refine Does2.call 30 #[.agg #[.int .u32 g, .bool x2, .int .i64 l2, .slice a4 n2 c4], .agg #[.int .u32 g, .bool x2, .int .i64 l2, .slice a17 s2.length c17]] (w' := w9) ?_ ((rSame8 g x2 l2 a4 n2 c4 s2 g x2 l2 a17 _ c17 s2 w9 N2.out rfl (by have := HR2.out.2.1; rw [N2.out] at this; omega) (by have := HR2.out.2.1; omega) (SSX.out.below hS) h17).mono ?_)
                    · clear hS h0 hd h17
                      go_simp
                    · rw [decide_eq_true ⟨rfl, rfl, rfl, rfl⟩]
                      rintro e w8 ⟨rfl, hb⟩
                      exact ⟨_, rfl, rfl, hS.trans (hb.mono hS.size), hb⟩
                  case refine_20 =>
                    intro a' w9 hS h0 hd
                    have e83 : a'.tmps[83]?.getD undef = .bool true := vev (hd 9 List.mem_cons_self)
                    have e92 : a'.tmps[92]?.getD undef = .bool true := vev (hd 18 (List.mem_cons_of_mem _ List.mem_cons_self))
                    refine Does2.value (.bool true) (w' := w9) ?_ ⟨rfl, hS, Below.refl _ _⟩
                    clear hS h0 hd
                    go_simp
                  case refine_21 =>
                    intro a' w9 hS h0 hd
                    have e93 : a'.tmps[93]?.getD undef = .bool true := vev (hd 19 List.mem_cons_self)
                    refine Does2.value (.bool true) (w' := w9) ?_ ⟨rfl, hS, Below.refl _ _⟩
                    clear hS h0 hd
                    go_simp
                  case refine_22 =>
                    intro a' w9 hS h0 hd
                    have e4 : a'.tmps[4]?.getD undef = .pointer (some ⟨w.heap.size + 2, 0, none⟩) := vev (h0 4 (by kernel_rfl))
                    obtain ⟨y0, y1, y2, y3, -⟩ := (VM.out.below hS VM.out.lt).cells
                    refine Does2.value (.agg #[.int .u32 g, .bool ex, .int .i64 left, .slice a n c]) (w' := w9) ?_ ⟨rfl, hS, Below.refl _ _⟩
                    clear hS h0 hd
                    go_simp
                  case refine_23 =>
                    intro a' w9 hS h0 hd
                    have e95 : a'.tmps[95]?.getD undef = .agg #[.int .u32 g, .bool ex, .int .i64 left, .slice a n c] := vev (hd 21 List.mem_cons_self)
                    refine Does2.call 29 #[.agg #[.int .u32 g, .bool ex, .int .i64 left, .slice a n c], .int .i64 0] (w' := w9) ?_ ((mTick g ex left a n c s 0 w9 HX.out (by omega) (SM.out.below hS) (fun y hy => by have := (OK.out.lb.weak (lo_nn _)) y hy; omega) (by have := OK.out.left; omega) (by omega)).mono ?_)
                    · clear hS h0 hd
                      go_simp
                    · rintro e w8 ⟨⟨a8, c8, rfl, h8⟩, hb⟩
                      rw [T4.out.1, T4.out.2.2.2] at h8
                      rw [T4.out.1, T4.out.2.1, T4.out.2.2.1, T4.out.2.2.2]
                      exact ⟨_, rfl, ⟨a8, c8, rfl, h8.1⟩, hS.trans (hb.mono hS.size), hb⟩
                  case refine_24 =>
                    intro a' w9 hS h0 hd
                    have e4 : a'.tmps[4]?.getD undef = .pointer (some ⟨w.heap.size + 2, 0, none⟩) := vev (h0 4 (by kernel_rfl))
                    obtain ⟨y0, y1, y2, y3, -⟩ := (VM.out.below hS VM.out.lt).cells
                    refine Does2.value (.agg #[.int .u32 g, .bool ex, .int .i64 left, .slice a n c]) (w' := w9) ?_ ⟨rfl, hS, Below.refl _ _⟩
                    clear hS h0 hd
                    go_simp
                  case refine_25 =>
                    intro a' w9 hS h0 hd
                    obtain ⟨a22, c22, e96, h22⟩ := hd 22 List.mem_cons_self
                    replace e96 := vev e96
                    have e97 : a'.tmps[97]?.getD undef = .agg #[.int .u32 g, .bool ex, .int .i64 left, .slice a n c] := vev (hd 23 (List.mem_cons_of_mem _ List.mem_cons_self))
                    refine Does2.call 30 #[.agg #[.int .u32 g, .bool ex, .int .i64 left, .slice a22 s.length c22], .agg #[.int .u32 g, .bool ex, .int .i64 left, .slice a n c]] (w' := w9) ?_ ((rSame8 g ex left a22 _ c22 s g ex left a n c s w9 rfl HX.out (by rw [HX.out]; omega) (by omega) h22 (SM.out.below hS)).mono ?_)
                    · clear hS h0 hd h22
                      go_simp
                    · rw [decide_eq_true ⟨rfl, rfl, rfl, rfl⟩]
                      rintro e w8 ⟨rfl, hb⟩
                      exact ⟨_, rfl, rfl, hS.trans (hb.mono hS.size), hb⟩
                  case refine_26 =>
                    intro a' w9 hS h0 hd
                    have e94 : a'.tmps[94]?.getD undef = .bool true := vev (hd 20 List.mem_cons_self)
                    have e98 : a'.tmps[98]?.getD undef = .bool true := vev (hd 24 (List.mem_cons_of_mem _ List.mem_cons_self))
                    refine Does2.value (.bool true) (w' := w9) ?_ ⟨rfl, hS, Below.refl _ _⟩
                    clear hS h0 hd
                    go_simp
                  case refine_27 =>
                    intro a' w9 hS h0 hd
                    have e99 : a'.tmps[99]?.getD undef = .bool true := vev (hd 25 List.mem_cons_self)
                    refine Does2.value (.bool true) (w' := w9) ?_ ⟨rfl, hS, Below.refl _ _⟩
                    clear hS h0 hd
                    go_simp
                  case hend =>
                    intro f2 wF hS hv
                    have v2 := hv 26 (by decide)
                    replace v2 : f2 2 = .bool true := v2
                    simp only [putAll, Act.put, List.setIfInBounds_toArray, List.set_cons_zero, List.set_cons_succ, v2]
                    have BB := Lib.hid (BB.out.trans (hS.mono BB.out.size))
                    clear hS hv v2
                    go_wp2_with fail
                    go_ret
                    exact ⟨rfl, BB.out⟩
      · have q3' : (200 : Int) < (ln : Int) := by omega
        clear q3
        obtain ⟨TT0, TT1⟩ := TT.out
        obtain ⟨VM0, VM1, VM2, VM3, -⟩ := VM.out.cells
        obtain ⟨NV0, NV1⟩ := NV.out
        go_wp2_with fail
        go_ret
        exact ⟨rfl, BB.out⟩
    · rw [decide_eq_false q2]
      clear q2
      obtain ⟨TT0, TT1⟩ := TT.out
      obtain ⟨VM0, VM1, VM2, VM3, -⟩ := VM.out.cells
      obtain ⟨NV0, NV1⟩ := NV.out
      go_wp2_with fail
      go_ret
      exact ⟨rfl, BB.out⟩
  · rw [decide_eq_false q1]
    clear q1
    obtain ⟨TT0, TT1⟩ := TT.out
    obtain ⟨VM0, VM1, VM2, VM3, -⟩ := VM.out.cells
    obtain ⟨NV0, NV1⟩ := NV.out
    go_wp2_with fail
    go_ret
    exact ⟨rfl, BB.out⟩

set_option maxRecDepth 100000 in
theorem contract (H : Type) (enc : TypeId × Value → H) (W : World) (base : Nat) (args : Array Value) (ds gs : List (DataW H)) (before : List MemPlace)
    (hval : ∀ (j : Nat) t v, Try.f4.params[j]? = some t → args[j]? = some v → Value.okWide Try.prog W .any base t v)
    (hW : DataW.Whole enc Try.prog Try.f4.params.toList Rows.membStaysSpec.vars false W args.toList ds gs before) (hsz : (DataW.weightsEach Try.prog (Try.f4.params.toList ++ Rows.membStaysSpec.plain.varTypes Try.prog) (ds ++ gs)).all (· ≤ reachBytes) = true) :
    Calls Try.prog 4 args W fun e W' => ∃ v, e = .returned v ∧ Rows.membStaysSpec.post enc Try.prog Try.f4 false true false false W args v W' := by
  have hW' := hW
  obtain ⟨p, q, hA0, hV, rfl, hfz, hnd⟩ := hW
  have hA : DataW.TrodAll enc Try.prog W 0 (fun _ => true) true Try.f4.params.toList args.toList ds p := hA0
  rw [Try.params4] at hA hval
  obtain ⟨v0, vs0, d0, ds0, p0, q0, hargs, rfl, rfl, h0, r0⟩ := trodAll_cons hA
  obtain ⟨rfl, rfl, rfl⟩ := trodAll_nil r0
  obtain rfl : args = #[v0] := by cases args; simp_all
  obtain ⟨rfl, rfl⟩ := trodVars_none hV
  have k0 := h0
  have lt0 : ∀ x ∈ p0, x.block < W.heap.size := by obtain ⟨m, hm⟩ := k0; exact DataW.trod_lt m _ _ _ hm
  obtain ⟨kq0, l0, g0, x0, f0, a0, c0, s0, i0, b0, e0, t0, m0, n0, rfl, q10, q20, q30, q40, q50, q60, q70, q80, q90⟩ := open_stays (hval 0 51 v0 rfl rfl) h0 (fun x hx => by simpa using List.all_eq_true.1 hsz _ (DataW.weights_mem_each (j := 0) rfl rfl x hx))
  clear hA0
  refine (walk W kq0 l0 g0 x0 f0 a0 c0 s0 i0 b0 e0 t0 m0 n0 q10 q20 q30 q40 q50 q60 q70 q80 q90).mono fun e W' ⟨he, bel⟩ => ?_
  subst he
  exact ⟨_, rfl, _, _, _, [], _, [], hW', trodAll_mk1 (shut_bool Try.underlying4 _), (trodAll_cons_mk (Below.trod laidOut (by kernel_rfl) (of_decide_eq_true (by kernel_rfl)) k0 bel lt0) trodAll_mk0), rfl, bel.frame _, fun h => by cases h⟩

set_option maxRecDepth 100000 in
theorem lifted (os : Os) (started : os.Started) (H : Type) (enc : TypeId × Value → H) :
    ReturnsInHanded {} Try.checked os 4 .any (Rows.membStaysSpec.pre6 enc Try.prog Try.f4 Rows.membStaysRow.domain false) (Rows.membStaysSpec.post enc Try.prog Try.f4 false true false false) := by
  refine returnsInHanded_of_change_sized (C := Try.checked) own started (by kernel_rfl) Try.func4
    (ChangeSpec.witness6 (enc := enc) (C := Try.checked) false ⟨#[], #[(.agg #[.int .i64 0, .int .i64 0, .int .u32 0, .bool false, .int .i64 0, .slice none 0 0, .int .u8 0, .slice none 0 0, .int .i64 0, .int .i64 0])], []⟩ 8 (by kernel_rfl) (by kernel_rfl) (by kernel_rfl) (by kernel_rfl)) ?_
  intro W base args ds gs before hval hW hcnd hsz _
  exact contract H enc W base args ds gs before hval hW hsz
theorem said : Rows.MembStaysSaid :=
  OpenClaim.holds_of_wide 4 Try.f4 rfl rfl rfl rfl rfl rfl rfl ⟨rfl, rfl, rfl, rfl, rfl⟩ rfl rfl rfl rfl rfl (by kernel_rfl) Try.func4 (by kernel_rfl)
    (of_decide_eq_true (by kernel_rfl)) (by unfold Func.isWrapper; first | (rw [if_pos (by decide +kernel)]; kernel_rfl) | (rw [if_neg (by decide +kernel)]; exact ⟨rfl, rfl⟩))
    (fun os started H enc _ => lifted os started H enc)
#print axioms said
end Go.Proofs.Ytllpmepmgnnoaaa.membStays
