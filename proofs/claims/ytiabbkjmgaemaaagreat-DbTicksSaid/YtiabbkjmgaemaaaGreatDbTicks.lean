/- The law DbTicks: every call returns true, and its arguments read behind the call as before it. Condition: none but the row's own. -/
import Derived.Test.YtiabbkjmgaemaaaGreatDB21
namespace Go.Proofs.YtiabbkjmgaemaaaGreat.dbTicks
set_option linter.unusedVariables false
open Go.ChangeShapes Go.WideShapes Go.ChangeAt Go.RowKit
open Go.ChangeMaps (open_string shut_string)

def tk9V (N X : Nat) (kp la lim : Int) (a : Option Addr) (n c : Nat) (a2 : Option Addr) (n2 c2 : Nat) (ta tb : Int) (L1 L0 : List Plc) : Nat → Value → List Value → World → Prop
  | 0, v, _, _ => v = .bool true
  | 1, v, _, _ => v = .bool true
  | 2, v, _, _ => v = .agg #[.int .i64 kp, .int .i64 la, .int .i64 lim, .slice a2 n2 c2]
  | 3, v, _, _ => v = .agg #[.int .i64 kp, .int .i64 la, .int .i64 lim, .slice a n c]
  | 4, v, _, _ => v = .int .i64 ta
  | 5, v, _, _ => v = .int .i64 tb
  | 6, v, _, _ => v = .int .i64 (ta + tb)
  | 7, v, _, w => ∃ (a47 : Option Addr) (c47 : Nat) (l47 : List Plc), v = .agg #[.int .i64 kp, .int .i64 la, .int .i64 lim, .slice a47 (List.length l47) c47] ∧ l47.map Plc.nm = L1 ∧ Pls w a47 l47
  | 8, v, _, _ => v = .bool true
  | 9, v, _, _ => v = .bool true
  | 10, v, _, _ => v = .bool true
  | 11, v, _, _ => v = .agg #[.int .i64 kp, .int .i64 la, .int .i64 lim, .slice a n c]
  | 12, v, _, w => ∃ (a52 : Option Addr) (c52 : Nat) (l52 : List Plc), v = .agg #[.int .i64 kp, .int .i64 la, .int .i64 lim, .slice a52 (List.length l52) c52] ∧ l52.map Plc.nm = L0 ∧ Pls w a52 l52
  | 13, v, _, _ => v = .agg #[.int .i64 kp, .int .i64 la, .int .i64 lim, .slice a n c]
  | 14, v, _, _ => v = .bool true
  | 15, v, _, _ => v = .bool true
  | 16, v, _, _ => v = .bool true
  | 17, v, _, _ => v = .agg #[.int .i64 kp, .int .i64 la, .int .i64 lim, .slice a n c]
  | 18, v, _, _ => v = .int .i64 ta
  | 19, v, _, _ => v = .int .i64 (0 - ta)
  | 20, v, _, w => ∃ (a60 : Option Addr) (c60 : Nat) (l60 : List Plc), v = .agg #[.int .i64 kp, .int .i64 la, .int .i64 lim, .slice a60 (List.length l60) c60] ∧ l60.map Plc.nm = L0 ∧ Pls w a60 l60
  | 21, v, _, _ => v = .agg #[.int .i64 kp, .int .i64 la, .int .i64 lim, .slice a n c]
  | 22, v, _, _ => v = .bool true
  | 23, v, _, _ => v = .bool true
  | 24, v, _, _ => v = .bool true
  | 25, v, _, _ => v = .pointer (some ⟨X, 3, none⟩)
  | 26, v, _, _ => v = .slice a2 n2 c2
  | 27, v, _, _ => v = .int .i64 (n2 : Int)
  | 28, v, _, _ => v = .pointer (some ⟨N, 3, none⟩)
  | 29, v, _, _ => v = .slice a n c
  | 30, v, _, _ => v = .int .i64 (n : Int)
  | 31, v, _, _ => v = .bool true
  | 32, v, _, _ => v = .bool true
  | 33, v, _, _ => v = .bool true
  | _, _, _, _ => True
def tk9D : Nat → List Nat
  | 1 => [0]
  | 2 => [1]
  | 3 => [1]
  | 4 => [1]
  | 5 => [1]
  | 6 => [4, 5, 1]
  | 7 => [3, 6, 1]
  | 8 => [2, 7, 1]
  | 9 => [1, 8]
  | 10 => [9]
  | 11 => [10]
  | 12 => [11, 10]
  | 13 => [10]
  | 14 => [12, 13, 10]
  | 15 => [10, 14]
  | 16 => [15]
  | 17 => [16]
  | 18 => [16]
  | 19 => [18, 16]
  | 20 => [17, 19, 16]
  | 21 => [16]
  | 22 => [20, 21, 16]
  | 23 => [16, 22]
  | 24 => [23]
  | 25 => [24]
  | 26 => [25, 24]
  | 27 => [26, 24]
  | 28 => [24]
  | 29 => [28, 24]
  | 30 => [29, 24]
  | 31 => [27, 30, 24]
  | 32 => [24, 31]
  | 33 => [32]
  | _ => []
theorem tk9_st (N X : Nat) (kp la lim : Int) (a : Option Addr) (n c : Nat) (a2 : Option Addr) (n2 c2 : Nat) (ta tb : Int) (L1 L0 : List Plc) {i : Nat} {v : Value} {us : List Value} {w w' : World}  (hr : Below w.heap.size w w') (hv : tk9V N X kp la lim a n c a2 n2 c2 ta tb L1 L0 i v us w) : tk9V N X kp la lim a n c a2 n2 c2 ta tb L1 L0 i v us w' := by
  unfold tk9V at hv ⊢
  split at hv
  all_goals first
    | exact hv
    | (obtain ⟨a47, c47, l47, e, m47, h47⟩ := hv; exact ⟨a47, c47, l47, e, m47, h47.below hr⟩)
    | (obtain ⟨a52, c52, l52, e, m52, h52⟩ := hv; exact ⟨a52, c52, l52, e, m52, h52.below hr⟩)
    | (obtain ⟨a60, c60, l60, e, m60, h60⟩ := hv; exact ⟨a60, c60, l60, e, m60, h60.below hr⟩)
set_option maxRecDepth 100000 in
set_option maxHeartbeats 16000000 in
theorem walk (w : World) (kp la lim : Int) (a : Option Addr) (c : Nat) (l : List Plc) (hin : DIn w a l) (ta : Int) (hta : -9223372036854775808 ≤ ta ∧ ta ≤ 9223372036854775807) (tb : Int) (htb : -9223372036854775808 ≤ tb ∧ tb ≤ 9223372036854775807) :
    Calls Tryz.prog 10 #[.agg #[.int .i64 kp, .int .i64 la, .int .i64 lim, .slice a (List.length l) c], .int .i64 ta, .int .i64 tb] w fun e w' => e = .returned (.bool true) ∧ Below w.heap.size w w' := by
  obtain ⟨n, hn⟩ : ∃ n, l.length = n := ⟨_, rfl⟩
  obtain ⟨hpl, hn0, hsl⟩ := hin
  rw [hn] at hn0 ⊢
  have HX := Lib.hid hn
  have HSL := Lib.hid hsl
  have hb := bel1 w (.cells #[.int .i64 kp, .int .i64 la, .int .i64 lim, .slice a n c] 46)
  have V := Lib.hid (DV.new w kp la lim a n c)
  have HPL := Lib.hid (hpl.below hb)
  have HB := Lib.hid hb
  clear hn hpl hsl hb
  go_enter Tryz.func10, Tryz.ntmps10
  go_wp2_with fail
  generalize w.alloc (.cells #[.int .i64 kp, .int .i64 la, .int .i64 lim, .slice a n c] 46) = w1 at *
  refine (dShown w1).mono ?_
  rintro e w2 ⟨rfl, hb⟩
  replace V := Lib.hid (V.out.below hb V.out.lt)
  replace HPL := Lib.hid (HPL.out.below hb)
  replace HB := Lib.hid (HB.out.trans (hb.mono HB.out.size))
  clear hb
  obtain ⟨c0, c1, c2, c3, -⟩ := V.out.cells
  go_wp2_with fail
  refine (rFew9 kp la lim a n c l w2 HX.out hn0 HPL.out HSL.out).mono ?_
  rintro e w3 ⟨rfl, hb⟩
  replace V := Lib.hid (V.out.below hb V.out.lt)
  replace HPL := Lib.hid (HPL.out.below hb)
  replace HB := Lib.hid (HB.out.trans (hb.mono HB.out.size))
  clear hb c0 c1 c2 c3
  obtain ⟨c0, c1, c2, c3, -⟩ := V.out.cells
  obtain ⟨fw, hfw⟩ : ∃ f, decide (few l ≤ 2000) = f := ⟨_, rfl⟩
  rw [hfw]
  have HFW := Lib.hid hfw
  clear hfw
  cases fw
  · go_wp2_with fail
    go_ret
    exact ⟨rfl, HB.out⟩
  have hfew := of_decide_eq_true HFW.out
  have hn2k : n ≤ 2000 := by unfold few at hfew; have := HX.out; omega
  have HS2 : Hid (∀ p ∈ l, p.s.length ≤ 2000) := Lib.hid (fun p hp => Nat.le_trans (few_one hp) hfew)
  clear hfew
  go_wp2_with fail
  refine (rRight9 kp la lim a n c l w3 HX.out (by omega) HPL.out (fun p hp => by have := HS2.out p hp; omega)).mono ?_
  rintro e w4 ⟨rfl, hb⟩
  replace V := Lib.hid (V.out.below hb V.out.lt)
  replace HPL := Lib.hid (HPL.out.below hb)
  replace HB := Lib.hid (HB.out.trans (hb.mono HB.out.size))
  clear hb c0 c1 c2 c3
  obtain ⟨c0, c1, c2, c3, -⟩ := V.out.cells
  obtain ⟨ok, hok⟩ : ∃ f, decide (okD kp la lim l) = f := ⟨_, rfl⟩
  rw [hok]
  have HOKB := Lib.hid hok
  clear hok
  cases ok
  · go_wp2_with fail
    go_ret
    exact ⟨rfl, HB.out⟩
  have HOK := Lib.hid (of_decide_eq_true HOKB.out)
  by_cases t0 : ta < 0
  · have q0 : decide (ta < 0) = true := decide_eq_true t0
    go_wp2_with fail
    go_ret
    exact ⟨rfl, HB.out⟩
  have q0 : decide (ta < 0) = false := decide_eq_false t0
  by_cases t1 : tb < 0
  · have q1 : decide (tb < 0) = true := decide_eq_true t1
    go_wp2_with fail
    go_ret
    exact ⟨rfl, HB.out⟩
  have q1 : decide (tb < 0) = false := decide_eq_false t1
  by_cases t2 : 1000000 < ta
  · have q2 : decide (1000000 < ta) = true := decide_eq_true t2
    go_wp2_with fail
    go_ret
    exact ⟨rfl, HB.out⟩
  have q2 : decide (1000000 < ta) = false := decide_eq_false t2
  by_cases t3 : 1000000 < tb
  · have q3 : decide (1000000 < tb) = true := decide_eq_true t3
    go_wp2_with fail
    go_ret
    exact ⟨rfl, HB.out⟩
  have q3 : decide (1000000 < tb) = false := decide_eq_false t3
  have hta0 : 0 ≤ ta ∧ ta ≤ 1000000 := by omega
  have htb0 : 0 ≤ tb ∧ tb ≤ 1000000 := by omega
  have HOKP : Hid (∀ p ∈ l, okP p) := Lib.hid HOK.out.2.2.2.2
  clear t0 t1 t2 t3
  go_wp2_with fail
  clear c0 c1 c2 c3 q0 q1 q2 q3
  refine (dTick9 kp la lim a n c l ta w4 HX.out (by omega) HPL.out HOKP.out hta).mono ?_
  rintro e w5 ⟨⟨a1, c1, l1, rfl, hm1, ho1, hp1⟩, hb⟩
  rw [show max ta 0 = ta by omega] at hm1
  have HOK1' : Hid (okD kp la lim l1) := Lib.hid (okD_nm.1 (by rw [hm1]; exact tickL_ok HOK.out hta0.1))
  have hle1 := len_of (tickL_ok HOK.out hta0.1) hm1
  have hpl1 := own_pls ho1 rfl (fun q hq => (hp1 q hq).ok)
  have HM1 := Lib.hid hm1
  have HP1 := Lib.hid hpl1
  have HL1 := Lib.hid hle1
  replace V := Lib.hid (V.out.below hb V.out.lt)
  replace HPL := Lib.hid (HPL.out.below hb)
  replace HB := Lib.hid (HB.out.trans (hb.mono HB.out.size))
  clear hb hm1 ho1 hp1 hpl1 hle1
  go_wp2_with fail
  refine (dTick9 kp la lim a1 _ c1 l1 tb w5 rfl (by have := HL1.out.1; omega) HP1.out HOK1'.out.2.2.2.2 htb).mono ?_
  rintro e w7 ⟨⟨a2, c2, lx, rfl, hm2, ho2, hp2⟩, hb⟩
  rw [show max tb 0 = tb by omega] at hm2
  have hpl2 := own_pls ho2 rfl (fun q hq => (hp2 q hq).ok)
  have hmx : lx.map Plc.nm = tickL l (ta + tb) := by rw [hm2, ← tickL_nm l1 tb, HM1.out, tickL_add HOKP.out hta0.1 htb0.1]
  have HXM := Lib.hid hmx
  have HOK1 : Hid (okD kp la lim (tickL l (ta + tb))) := Lib.hid (tickL_ok HOK.out (by omega))
  have HXB := Lib.hid (len_of HOK1.out hmx)
  have hlx : lx.length ≤ n := by
    have h1 := congrArg List.length hmx
    rw [List.length_map] at h1
    have h2 := tickL_len l (ta + tb)
    have h3 := HX.out
    omega
  obtain ⟨n2, hn2⟩ : ∃ k, lx.length = k := ⟨_, rfl⟩
  rw [hn2] at hlx ⊢
  have HXL := Lib.hid hn2
  have HT1 : Hid (tickL l (max (ta + tb) 0) = tickL l (ta + tb)) := Lib.hid (by rw [show max (ta + tb) 0 = ta + tb by omega])
  have HT0 : Hid (tickL l (max 0 0) = l.map Plc.nm) := Lib.hid (by rw [show max (0 : Int) 0 = 0 by omega]; exact tickL_zero HOKP.out)
  have HTM : Hid (tickL l (max (0 - ta) 0) = l.map Plc.nm) := Lib.hid (by rw [show max (0 - ta) 0 = 0 by omega]; exact tickL_zero HOKP.out)
  have HOK0 : Hid (okD kp la lim (l.map Plc.nm)) := Lib.hid (okD_nm.2 HOK.out)
  have hbx := bel1 w7 (.cells #[.int .i64 kp, .int .i64 la, .int .i64 lim, .slice a2 n2 c2] 46)
  have VX := Lib.hid (DV.new w7 kp la lim a2 n2 c2)
  have HPX := Lib.hid (hpl2.below hbx)
  replace V := Lib.hid ((V.out.below hb V.out.lt).below hbx (V.out.below hb V.out.lt).lt)
  replace HPL := Lib.hid ((HPL.out.below hb).below hbx)
  have HB8 := Lib.hid ((HB.out.trans (hb.mono HB.out.size)).trans (hbx.mono (HB.out.trans (hb.mono HB.out.size)).size))
  clear hm2 ho2 hp2 hpl2 hmx hn2 hb hbx HB HP1 HM1
  have y1 : IntKind.i64.wrap (ta + tb) = ta + tb := vwrap (by omega) (by omega)
  have y2 : IntKind.i64.wrap (0 - ta) = 0 - ta := vwrap (by omega) (by omega)
  have y3 : IntKind.i64.wrap (-ta) = -ta := vwrap (by omega) (by omega)
  have y4 : (n2 : Int) ≤ (n : Int) := by omega
  go_wp2_with fail
  generalize w7.alloc (.cells #[.int .i64 kp, .int .i64 la, .int .i64 lim, .slice a2 n2 c2] 46) = w8 at *
  refine wp_region_each3 (tk9V w.heap.size w7.heap.size kp la lim a n c a2 n2 c2 ta tb (tickL l (ta + tb)) (l.map Plc.nm)) (fun W => Below w8.heap.size w8 W) (fun _ A B => Below A.heap.size A B) tk9D [40, 41, 42, 43, 44, 45, 46, 47, 48, 49, 50, 51, 52, 53, 54, 55, 56, 57, 58, 59, 60, 61, 62, 63, 64, 65, 66, 67, 68, 69, 70, 71, 72, 6] (by kernel_rfl) (by kernel_rfl) (by kernel_rfl) (Below.refl _ w8).drew
    (fun i j oi oj v us A B hoi hoj hij hw hSA hr hv => tk9_st _ _ _ _ _ _ _ _ _ _ _ _ _ _ _ hr hv) ?hgd
    ⟨?_, ?_, ?_, ?_, ?_, ?_, ?_, ?_, ?_, ?_, ?_, ?_, ?_, ?_, ?_, ?_, ?_, ?_, ?_, ?_, ?_, ?_, ?_, ?_, ?_, ?_, ?_, ?_, ?_, ?_, ?_, ?_, ?_, ?_, trivial⟩ ?hend
  case hgd =>
    intro i o g b hoi hog v us w hv
    have hi : i < 34 := (Array.getElem?_eq_some_iff.1 hoi).1
    have hc : i = 0 ∨ i = 1 ∨ i = 2 ∨ i = 3 ∨ i = 4 ∨ i = 5 ∨ i = 6 ∨ i = 7 ∨ i = 8 ∨ i = 9 ∨ i = 10 ∨ i = 11 ∨ i = 12 ∨ i = 13 ∨ i = 14 ∨ i = 15 ∨ i = 16 ∨ i = 17 ∨ i = 18 ∨ i = 19 ∨ i = 20 ∨ i = 21 ∨ i = 22 ∨ i = 23 ∨ i = 24 ∨ i = 25 ∨ i = 26 ∨ i = 27 ∨ i = 28 ∨ i = 29 ∨ i = 30 ∨ i = 31 ∨ i = 32 ∨ i = 33 := by omega
    rcases hc with rfl | rfl | rfl | rfl | rfl | rfl | rfl | rfl | rfl | rfl | rfl | rfl | rfl | rfl | rfl | rfl | rfl | rfl | rfl | rfl | rfl | rfl | rfl | rfl | rfl | rfl | rfl | rfl | rfl | rfl | rfl | rfl | rfl | rfl
    · cases hoi; cases hog
    · cases hoi; cases hog
    · cases hoi; cases hog; exact hv
    · cases hoi; cases hog; exact hv
    · cases hoi; cases hog; exact hv
    · cases hoi; cases hog; exact hv
    · cases hoi; cases hog; exact hv
    · cases hoi; cases hog; exact hv
    · cases hoi; cases hog; exact hv
    · cases hoi; cases hog
    · cases hoi; cases hog
    · cases hoi; cases hog; exact hv
    · cases hoi; cases hog; exact hv
    · cases hoi; cases hog; exact hv
    · cases hoi; cases hog; exact hv
    · cases hoi; cases hog
    · cases hoi; cases hog
    · cases hoi; cases hog; exact hv
    · cases hoi; cases hog; exact hv
    · cases hoi; cases hog; exact hv
    · cases hoi; cases hog; exact hv
    · cases hoi; cases hog; exact hv
    · cases hoi; cases hog; exact hv
    · cases hoi; cases hog
    · cases hoi; cases hog
    · cases hoi; cases hog; exact hv
    · cases hoi; cases hog; exact hv
    · cases hoi; cases hog; exact hv
    · cases hoi; cases hog; exact hv
    · cases hoi; cases hog; exact hv
    · cases hoi; cases hog; exact hv
    · cases hoi; cases hog; exact hv
    · cases hoi; cases hog
    · cases hoi; cases hog
  case refine_1 =>
    intro a' w9 hS h0 hd
    have e7 : a'.tmps[7]?.getD undef = .bool true := vev (h0 7 (by kernel_rfl))
    refine Does2.value (.bool true) (w' := w9) ?_ ⟨rfl, hS, Below.refl _ _⟩
    clear hS h0 hd
    go_simp
  case refine_2 =>
    intro a' w9 hS h0 hd
    have e40 : a'.tmps[40]?.getD undef = .bool true := vev (hd 0 List.mem_cons_self)
    refine Does2.value (.bool true) (w' := w9) ?_ ⟨rfl, hS, Below.refl _ _⟩
    clear hS h0 hd
    go_simp
  case refine_3 =>
    intro a' w9 hS h0 hd
    have e8 : a'.tmps[8]?.getD undef = .pointer (some ⟨w7.heap.size, 0, none⟩) := vev (h0 8 (by kernel_rfl))
    obtain ⟨y0, y1, y2, y3, -⟩ := (VX.out.below hS VX.out.lt).cells
    refine Does2.value (.agg #[.int .i64 kp, .int .i64 la, .int .i64 lim, .slice a2 n2 c2]) (w' := w9) ?_ ⟨rfl, hS, Below.refl _ _⟩
    clear hS h0 hd
    go_simp
  case refine_4 =>
    intro a' w9 hS h0 hd
    have e3 : a'.tmps[3]?.getD undef = .pointer (some ⟨w.heap.size, 0, none⟩) := vev (h0 3 (by kernel_rfl))
    obtain ⟨y0, y1, y2, y3, -⟩ := (V.out.below hS V.out.lt).cells
    refine Does2.value (.agg #[.int .i64 kp, .int .i64 la, .int .i64 lim, .slice a n c]) (w' := w9) ?_ ⟨rfl, hS, Below.refl _ _⟩
    clear hS h0 hd
    go_simp
  case refine_5 =>
    intro a' w9 hS h0 hd
    have e1 : a'.tmps[1]?.getD undef = .int .i64 ta := vev (h0 1 (by kernel_rfl))
    refine Does2.value (.int .i64 ta) (w' := w9) ?_ ⟨rfl, hS, Below.refl _ _⟩
    clear hS h0 hd
    go_simp
  case refine_6 =>
    intro a' w9 hS h0 hd
    have e2 : a'.tmps[2]?.getD undef = .int .i64 tb := vev (h0 2 (by kernel_rfl))
    refine Does2.value (.int .i64 tb) (w' := w9) ?_ ⟨rfl, hS, Below.refl _ _⟩
    clear hS h0 hd
    go_simp
  case refine_7 =>
    intro a' w9 hS h0 hd
    have e44 : a'.tmps[44]?.getD undef = .int .i64 ta := vev (hd 4 List.mem_cons_self)
    have e45 : a'.tmps[45]?.getD undef = .int .i64 tb := vev (hd 5 (List.mem_cons_of_mem _ List.mem_cons_self))
    refine Does2.value (.int .i64 (ta + tb)) (w' := w9) ?_ ⟨rfl, hS, Below.refl _ _⟩
    clear hS h0 hd
    go_simp
  case refine_8 =>
    intro a' w9 hS h0 hd
    have e43 : a'.tmps[43]?.getD undef = .agg #[.int .i64 kp, .int .i64 la, .int .i64 lim, .slice a n c] := vev (hd 3 List.mem_cons_self)
    have e46 : a'.tmps[46]?.getD undef = .int .i64 (ta + tb) := vev (hd 6 (List.mem_cons_of_mem _ List.mem_cons_self))
    refine Does2.call 36 #[.agg #[.int .i64 kp, .int .i64 la, .int .i64 lim, .slice a n c], .int .i64 (ta + tb)] (w' := w9) ?_ ((dTick9 kp la lim a n c l (ta + tb) w9 HX.out (by omega) (HPL.out.below hS) HOKP.out (by omega)).mono ?_)
    · clear hS h0 hd
      go_simp
    · rintro e w8 ⟨⟨a8, c8, l8, rfl, hm, ho, hp⟩, hb⟩
      rw [HT1.out] at hm
      exact ⟨_, rfl, ⟨a8, c8, l8, rfl, hm, own_pls ho rfl (fun q hq => (hp q hq).ok)⟩, hS.trans (hb.mono hS.size), hb⟩
  case refine_9 =>
    intro a' w9 hS h0 hd
    have e42 : a'.tmps[42]?.getD undef = .agg #[.int .i64 kp, .int .i64 la, .int .i64 lim, .slice a2 n2 c2] := vev (hd 2 List.mem_cons_self)
    obtain ⟨a47, c47, l47, e47, m47, h47⟩ := hd 7 (List.mem_cons_of_mem _ List.mem_cons_self)
    replace e47 := vev e47
    have hl := len_of HOK1.out m47
    refine Does2.call 25 #[.agg #[.int .i64 kp, .int .i64 la, .int .i64 lim, .slice a2 n2 c2], .agg #[.int .i64 kp, .int .i64 la, .int .i64 lim, .slice a47 (List.length l47) c47]] (w' := w9) ?_ ((rSame9 kp la lim a2 n2 c2 lx kp la lim a47 _ c47 l47 w9 HXL.out rfl (by have := HXB.out.1; have := HXL.out; omega) (by have := hl.1; omega) (HPX.out.below hS) h47 (fun q hq => by have := HXB.out.2 q hq; omega) (fun q hq => by have := hl.2 q hq; omega)).mono ?_)
    · clear hS h0 hd
      go_simp
    · rw [decide_eq_true (show sameD kp la lim lx kp la lim l47 from ⟨rfl, rfl, rfl, HXM.out.trans m47.symm⟩)]
      rintro e w8 ⟨rfl, hb⟩
      exact ⟨_, rfl, rfl, hS.trans (hb.mono hS.size), hb⟩
  case refine_10 =>
    intro a' w9 hS h0 hd
    have e41 : a'.tmps[41]?.getD undef = .bool true := vev (hd 1 List.mem_cons_self)
    have e48 : a'.tmps[48]?.getD undef = .bool true := vev (hd 8 (List.mem_cons_of_mem _ List.mem_cons_self))
    refine Does2.value (.bool true) (w' := w9) ?_ ⟨rfl, hS, Below.refl _ _⟩
    clear hS h0 hd
    go_simp
  case refine_11 =>
    intro a' w9 hS h0 hd
    have e49 : a'.tmps[49]?.getD undef = .bool true := vev (hd 9 List.mem_cons_self)
    refine Does2.value (.bool true) (w' := w9) ?_ ⟨rfl, hS, Below.refl _ _⟩
    clear hS h0 hd
    go_simp
  case refine_12 =>
    intro a' w9 hS h0 hd
    have e3 : a'.tmps[3]?.getD undef = .pointer (some ⟨w.heap.size, 0, none⟩) := vev (h0 3 (by kernel_rfl))
    obtain ⟨y0, y1, y2, y3, -⟩ := (V.out.below hS V.out.lt).cells
    refine Does2.value (.agg #[.int .i64 kp, .int .i64 la, .int .i64 lim, .slice a n c]) (w' := w9) ?_ ⟨rfl, hS, Below.refl _ _⟩
    clear hS h0 hd
    go_simp
  case refine_13 =>
    intro a' w9 hS h0 hd
    have e51 : a'.tmps[51]?.getD undef = .agg #[.int .i64 kp, .int .i64 la, .int .i64 lim, .slice a n c] := vev (hd 11 List.mem_cons_self)
    refine Does2.call 36 #[.agg #[.int .i64 kp, .int .i64 la, .int .i64 lim, .slice a n c], .int .i64 (0)] (w' := w9) ?_ ((dTick9 kp la lim a n c l (0) w9 HX.out (by omega) (HPL.out.below hS) HOKP.out (by omega)).mono ?_)
    · clear hS h0 hd
      go_simp
    · rintro e w8 ⟨⟨a8, c8, l8, rfl, hm, ho, hp⟩, hb⟩
      rw [HT0.out] at hm
      exact ⟨_, rfl, ⟨a8, c8, l8, rfl, hm, own_pls ho rfl (fun q hq => (hp q hq).ok)⟩, hS.trans (hb.mono hS.size), hb⟩
  case refine_14 =>
    intro a' w9 hS h0 hd
    have e3 : a'.tmps[3]?.getD undef = .pointer (some ⟨w.heap.size, 0, none⟩) := vev (h0 3 (by kernel_rfl))
    obtain ⟨y0, y1, y2, y3, -⟩ := (V.out.below hS V.out.lt).cells
    refine Does2.value (.agg #[.int .i64 kp, .int .i64 la, .int .i64 lim, .slice a n c]) (w' := w9) ?_ ⟨rfl, hS, Below.refl _ _⟩
    clear hS h0 hd
    go_simp
  case refine_15 =>
    intro a' w9 hS h0 hd
    obtain ⟨a52, c52, l52, e52, m52, h52⟩ := hd 12 List.mem_cons_self
    replace e52 := vev e52
    have e53 : a'.tmps[53]?.getD undef = .agg #[.int .i64 kp, .int .i64 la, .int .i64 lim, .slice a n c] := vev (hd 13 (List.mem_cons_of_mem _ List.mem_cons_self))
    have hl := len_of HOK0.out m52
    refine Does2.call 25 #[.agg #[.int .i64 kp, .int .i64 la, .int .i64 lim, .slice a52 (List.length l52) c52], .agg #[.int .i64 kp, .int .i64 la, .int .i64 lim, .slice a n c]] (w' := w9) ?_ ((rSame9 kp la lim a52 _ c52 l52 kp la lim a n c l w9 rfl HX.out (by have := hl.1; omega) (by omega) h52 (HPL.out.below hS) (fun q hq => by have := hl.2 q hq; omega) (fun q hq => by have := HSL.out q hq; omega)).mono ?_)
    · clear hS h0 hd
      go_simp
    · rw [decide_eq_true (show sameD kp la lim l52 kp la lim l from ⟨rfl, rfl, rfl, m52⟩)]
      rintro e w8 ⟨rfl, hb⟩
      exact ⟨_, rfl, rfl, hS.trans (hb.mono hS.size), hb⟩
  case refine_16 =>
    intro a' w9 hS h0 hd
    have e50 : a'.tmps[50]?.getD undef = .bool true := vev (hd 10 List.mem_cons_self)
    have e54 : a'.tmps[54]?.getD undef = .bool true := vev (hd 14 (List.mem_cons_of_mem _ List.mem_cons_self))
    refine Does2.value (.bool true) (w' := w9) ?_ ⟨rfl, hS, Below.refl _ _⟩
    clear hS h0 hd
    go_simp
  case refine_17 =>
    intro a' w9 hS h0 hd
    have e55 : a'.tmps[55]?.getD undef = .bool true := vev (hd 15 List.mem_cons_self)
    refine Does2.value (.bool true) (w' := w9) ?_ ⟨rfl, hS, Below.refl _ _⟩
    clear hS h0 hd
    go_simp
  case refine_18 =>
    intro a' w9 hS h0 hd
    have e3 : a'.tmps[3]?.getD undef = .pointer (some ⟨w.heap.size, 0, none⟩) := vev (h0 3 (by kernel_rfl))
    obtain ⟨y0, y1, y2, y3, -⟩ := (V.out.below hS V.out.lt).cells
    refine Does2.value (.agg #[.int .i64 kp, .int .i64 la, .int .i64 lim, .slice a n c]) (w' := w9) ?_ ⟨rfl, hS, Below.refl _ _⟩
    clear hS h0 hd
    go_simp
  case refine_19 =>
    intro a' w9 hS h0 hd
    have e1 : a'.tmps[1]?.getD undef = .int .i64 ta := vev (h0 1 (by kernel_rfl))
    refine Does2.value (.int .i64 ta) (w' := w9) ?_ ⟨rfl, hS, Below.refl _ _⟩
    clear hS h0 hd
    go_simp
  case refine_20 =>
    intro a' w9 hS h0 hd
    have e58 : a'.tmps[58]?.getD undef = .int .i64 ta := vev (hd 18 List.mem_cons_self)
    refine Does2.value (.int .i64 (0 - ta)) (w' := w9) ?_ ⟨rfl, hS, Below.refl _ _⟩
    clear hS h0 hd
    go_simp
  case refine_21 =>
    intro a' w9 hS h0 hd
    have e57 : a'.tmps[57]?.getD undef = .agg #[.int .i64 kp, .int .i64 la, .int .i64 lim, .slice a n c] := vev (hd 17 List.mem_cons_self)
    have e59 : a'.tmps[59]?.getD undef = .int .i64 (0 - ta) := vev (hd 19 (List.mem_cons_of_mem _ List.mem_cons_self))
    refine Does2.call 36 #[.agg #[.int .i64 kp, .int .i64 la, .int .i64 lim, .slice a n c], .int .i64 (0 - ta)] (w' := w9) ?_ ((dTick9 kp la lim a n c l (0 - ta) w9 HX.out (by omega) (HPL.out.below hS) HOKP.out (by omega)).mono ?_)
    · clear hS h0 hd
      go_simp
    · rintro e w8 ⟨⟨a8, c8, l8, rfl, hm, ho, hp⟩, hb⟩
      rw [HTM.out] at hm
      exact ⟨_, rfl, ⟨a8, c8, l8, rfl, hm, own_pls ho rfl (fun q hq => (hp q hq).ok)⟩, hS.trans (hb.mono hS.size), hb⟩
  case refine_22 =>
    intro a' w9 hS h0 hd
    have e3 : a'.tmps[3]?.getD undef = .pointer (some ⟨w.heap.size, 0, none⟩) := vev (h0 3 (by kernel_rfl))
    obtain ⟨y0, y1, y2, y3, -⟩ := (V.out.below hS V.out.lt).cells
    refine Does2.value (.agg #[.int .i64 kp, .int .i64 la, .int .i64 lim, .slice a n c]) (w' := w9) ?_ ⟨rfl, hS, Below.refl _ _⟩
    clear hS h0 hd
    go_simp
  case refine_23 =>
    intro a' w9 hS h0 hd
    obtain ⟨a60, c60, l60, e60, m60, h60⟩ := hd 20 List.mem_cons_self
    replace e60 := vev e60
    have e61 : a'.tmps[61]?.getD undef = .agg #[.int .i64 kp, .int .i64 la, .int .i64 lim, .slice a n c] := vev (hd 21 (List.mem_cons_of_mem _ List.mem_cons_self))
    have hl := len_of HOK0.out m60
    refine Does2.call 25 #[.agg #[.int .i64 kp, .int .i64 la, .int .i64 lim, .slice a60 (List.length l60) c60], .agg #[.int .i64 kp, .int .i64 la, .int .i64 lim, .slice a n c]] (w' := w9) ?_ ((rSame9 kp la lim a60 _ c60 l60 kp la lim a n c l w9 rfl HX.out (by have := hl.1; omega) (by omega) h60 (HPL.out.below hS) (fun q hq => by have := hl.2 q hq; omega) (fun q hq => by have := HSL.out q hq; omega)).mono ?_)
    · clear hS h0 hd
      go_simp
    · rw [decide_eq_true (show sameD kp la lim l60 kp la lim l from ⟨rfl, rfl, rfl, m60⟩)]
      rintro e w8 ⟨rfl, hb⟩
      exact ⟨_, rfl, rfl, hS.trans (hb.mono hS.size), hb⟩
  case refine_24 =>
    intro a' w9 hS h0 hd
    have e56 : a'.tmps[56]?.getD undef = .bool true := vev (hd 16 List.mem_cons_self)
    have e62 : a'.tmps[62]?.getD undef = .bool true := vev (hd 22 (List.mem_cons_of_mem _ List.mem_cons_self))
    refine Does2.value (.bool true) (w' := w9) ?_ ⟨rfl, hS, Below.refl _ _⟩
    clear hS h0 hd
    go_simp
  case refine_25 =>
    intro a' w9 hS h0 hd
    have e63 : a'.tmps[63]?.getD undef = .bool true := vev (hd 23 List.mem_cons_self)
    refine Does2.value (.bool true) (w' := w9) ?_ ⟨rfl, hS, Below.refl _ _⟩
    clear hS h0 hd
    go_simp
  case refine_26 =>
    intro a' w9 hS h0 hd
    have e8 : a'.tmps[8]?.getD undef = .pointer (some ⟨w7.heap.size, 0, none⟩) := vev (h0 8 (by kernel_rfl))
    refine Does2.value (.pointer (some ⟨w7.heap.size, 3, none⟩)) (w' := w9) ?_ ⟨rfl, hS, Below.refl _ _⟩
    clear hS h0 hd
    go_simp
  case refine_27 =>
    intro a' w9 hS h0 hd
    have e65 : a'.tmps[65]?.getD undef = .pointer (some ⟨w7.heap.size, 3, none⟩) := vev (hd 25 List.mem_cons_self)
    obtain ⟨y0, y1, y2, y3, -⟩ := (VX.out.below hS VX.out.lt).cells
    refine Does2.value (.slice a2 n2 c2) (w' := w9) ?_ ⟨rfl, hS, Below.refl _ _⟩
    clear hS h0 hd
    go_simp
  case refine_28 =>
    intro a' w9 hS h0 hd
    have e66 : a'.tmps[66]?.getD undef = .slice a2 n2 c2 := vev (hd 26 List.mem_cons_self)
    refine Does2.value (.int .i64 (n2 : Int)) (w' := w9) ?_ ⟨rfl, hS, Below.refl _ _⟩
    clear hS h0 hd
    go_simp
  case refine_29 =>
    intro a' w9 hS h0 hd
    have e3 : a'.tmps[3]?.getD undef = .pointer (some ⟨w.heap.size, 0, none⟩) := vev (h0 3 (by kernel_rfl))
    refine Does2.value (.pointer (some ⟨w.heap.size, 3, none⟩)) (w' := w9) ?_ ⟨rfl, hS, Below.refl _ _⟩
    clear hS h0 hd
    go_simp
  case refine_30 =>
    intro a' w9 hS h0 hd
    have e68 : a'.tmps[68]?.getD undef = .pointer (some ⟨w.heap.size, 3, none⟩) := vev (hd 28 List.mem_cons_self)
    obtain ⟨y0, y1, y2, y3, -⟩ := (V.out.below hS V.out.lt).cells
    refine Does2.value (.slice a n c) (w' := w9) ?_ ⟨rfl, hS, Below.refl _ _⟩
    clear hS h0 hd
    go_simp
  case refine_31 =>
    intro a' w9 hS h0 hd
    have e69 : a'.tmps[69]?.getD undef = .slice a n c := vev (hd 29 List.mem_cons_self)
    refine Does2.value (.int .i64 (n : Int)) (w' := w9) ?_ ⟨rfl, hS, Below.refl _ _⟩
    clear hS h0 hd
    go_simp
  case refine_32 =>
    intro a' w9 hS h0 hd
    have e67 : a'.tmps[67]?.getD undef = .int .i64 (n2 : Int) := vev (hd 27 List.mem_cons_self)
    have e70 : a'.tmps[70]?.getD undef = .int .i64 (n : Int) := vev (hd 30 (List.mem_cons_of_mem _ List.mem_cons_self))
    refine Does2.value (.bool true) (w' := w9) ?_ ⟨rfl, hS, Below.refl _ _⟩
    clear hS h0 hd
    go_simp
  case refine_33 =>
    intro a' w9 hS h0 hd
    have e64 : a'.tmps[64]?.getD undef = .bool true := vev (hd 24 List.mem_cons_self)
    have e71 : a'.tmps[71]?.getD undef = .bool true := vev (hd 31 (List.mem_cons_of_mem _ List.mem_cons_self))
    refine Does2.value (.bool true) (w' := w9) ?_ ⟨rfl, hS, Below.refl _ _⟩
    clear hS h0 hd
    go_simp
  case refine_34 =>
    intro a' w9 hS h0 hd
    have e72 : a'.tmps[72]?.getD undef = .bool true := vev (hd 32 List.mem_cons_self)
    refine Does2.value (.bool true) (w' := w9) ?_ ⟨rfl, hS, Below.refl _ _⟩
    clear hS h0 hd
    go_simp
  case hend =>
    intro f w9 hS hv
    have v6 := hv 33 (by decide)
    replace v6 : f 6 = .bool true := v6
    simp only [putAll, Act.put, List.setIfInBounds_toArray, List.set_cons_zero, List.set_cons_succ, v6]
    go_wp2_with fail
    go_ret
    exact ⟨rfl, HB8.out.trans (hS.mono HB8.out.size)⟩

set_option maxRecDepth 100000 in
theorem contract (H : Type) (enc : TypeId × Value → H) (W : World) (base : Nat) (args : Array Value) (ds gs : List (DataW H)) (before : List MemPlace)
    (hval : ∀ (j : Nat) t v, Tryz.f10.params[j]? = some t → args[j]? = some v → Value.okWide Tryz.prog W .any base t v)
    (hW : DataW.Whole enc Tryz.prog Tryz.f10.params.toList Rows.dbTicksSpec.vars false W args.toList ds gs before) (hsz : (DataW.weightsEach Tryz.prog (Tryz.f10.params.toList ++ Rows.dbTicksSpec.plain.varTypes Tryz.prog) (ds ++ gs)).all (· ≤ reachBytes) = true) :
    Calls Tryz.prog 10 args W fun e W' => ∃ v, e = .returned v ∧ Rows.dbTicksSpec.post enc Tryz.prog Tryz.f10 false true false false W args v W' := by
  have hW' := hW
  obtain ⟨p, q, hA0, hV, rfl, hfz, hnd⟩ := hW
  have hA : DataW.TrodAll enc Tryz.prog W 0 (fun _ => true) true Tryz.f10.params.toList args.toList ds p := hA0
  rw [Tryz.params10] at hA hval
  obtain ⟨v0, vs0, d0, ds0, p0, q0, hargs, rfl, rfl, h0, r0⟩ := trodAll_cons hA
  obtain ⟨v1, vs1, d1, ds1, p1, q1, rfl, rfl, rfl, h1, r1⟩ := trodAll_cons r0
  obtain ⟨v2, vs2, d2, ds2, p2, q2, rfl, rfl, rfl, h2, r2⟩ := trodAll_cons r1
  obtain ⟨rfl, rfl, rfl⟩ := trodAll_nil r2
  obtain rfl : args = #[v0, v1, v2] := by cases args; simp_all
  obtain ⟨rfl, rfl⟩ := trodVars_none hV
  have k0 := h0
  have lt0 : ∀ x ∈ p0, x.block < W.heap.size := by obtain ⟨m, hm⟩ := k0; exact DataW.trod_lt m _ _ _ hm
  have k1 := h1
  have lt1 : ∀ x ∈ p1, x.block < W.heap.size := by obtain ⟨m, hm⟩ := k1; exact DataW.trod_lt m _ _ _ hm
  have k2 := h2
  have lt2 : ∀ x ∈ p2, x.block < W.heap.size := by obtain ⟨m, hm⟩ := k2; exact DataW.trod_lt m _ _ _ hm
  obtain ⟨kq0, l0, m0, a0, c0, s0, rfl, q10⟩ := open_db (hval 0 46 v0 rfl rfl) h0 (fun x hx => by simpa using List.all_eq_true.1 hsz _ (DataW.weights_mem_each (j := 0) rfl rfl x hx))
  obtain ⟨a1, rfl, rfl, rfl, w1⟩ := open_int Tryz.underlying3 (hval 1 3 v1 rfl rfl) h1
  obtain ⟨a2, rfl, rfl, rfl, w2⟩ := open_int Tryz.underlying3 (hval 2 3 v2 rfl rfl) h2
  clear hA0
  refine (walk W kq0 l0 m0 a0 c0 s0 q10 a1 (bounds_i64 w1) a2 (bounds_i64 w2)).mono fun e W' ⟨he, bel⟩ => ?_
  subst he
  exact ⟨_, rfl, _, _, _, [], _, [], hW', trodAll_mk1 (shut_bool Tryz.underlying4 _), (trodAll_cons_mk (Below.trod laidOut (by kernel_rfl) (of_decide_eq_true (by kernel_rfl)) k0 bel lt0) (trodAll_cons_mk (Below.trod laidOut (by kernel_rfl) (of_decide_eq_true (by kernel_rfl)) k1 bel lt1) (trodAll_cons_mk (Below.trod laidOut (by kernel_rfl) (of_decide_eq_true (by kernel_rfl)) k2 bel lt2) trodAll_mk0))), rfl, bel.frame _, fun h => by cases h⟩

set_option maxRecDepth 100000 in
theorem lifted (os : Os) (started : os.Started) (H : Type) (enc : TypeId × Value → H) :
    ReturnsInHanded {} Tryz.checked os 10 .any (Rows.dbTicksSpec.pre6 enc Tryz.prog Tryz.f10 Rows.dbTicksRow.domain false) (Rows.dbTicksSpec.post enc Tryz.prog Tryz.f10 false true false false) := by
  refine returnsInHanded_of_change_sized (C := Tryz.checked) own started (by kernel_rfl) Tryz.func10
    (ChangeSpec.witness6 (enc := enc) (C := Tryz.checked) false ⟨#[], #[(.agg #[.int .i64 0, .int .i64 0, .int .i64 0, .slice none 0 0]), (.int .i64 0), (.int .i64 0)], []⟩ 8 (by kernel_rfl) (by kernel_rfl) (by kernel_rfl) (by kernel_rfl)) ?_
  intro W base args ds gs before hval hW hcnd hsz _
  exact contract H enc W base args ds gs before hval hW hsz
theorem said : Rows.DbTicksSaid :=
  OpenClaim.holds_of_wide 10 Tryz.f10 rfl rfl rfl rfl rfl rfl rfl ⟨rfl, rfl, rfl, rfl, rfl⟩ rfl rfl rfl rfl rfl (by kernel_rfl) Tryz.func10 (by kernel_rfl)
    (of_decide_eq_true (by kernel_rfl)) (by unfold Func.isWrapper; first | (rw [if_pos (by decide +kernel)]; kernel_rfl) | (rw [if_neg (by decide +kernel)]; exact ⟨rfl, rfl⟩))
    (fun os started H enc _ => lifted os started H enc)
#print axioms said
end Go.Proofs.YtiabbkjmgaemaaaGreat.dbTicks
