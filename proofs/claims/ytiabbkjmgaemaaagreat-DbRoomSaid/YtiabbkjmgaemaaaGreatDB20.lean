/- The document's answers on databases: Few, Right, Same. -/
import Derived.Test.YtiabbkjmgaemaaaGreatDB0
import Derived.Test.YtiabbkjmgaemaaaGreatDB1
import Derived.Test.YtiabbkjmgaemaaaGreatDB2
import Derived.Test.YtiabbkjmgaemaaaGreatDB3
import Derived.Test.YtiabbkjmgaemaaaGreatDB4
import Derived.Test.YtiabbkjmgaemaaaGreatDB5
import Derived.Test.YtiabbkjmgaemaaaGreatDB6
import Derived.Test.YtiabbkjmgaemaaaGreatDB7
import Derived.Test.YtiabbkjmgaemaaaGreatDB8
import Derived.Test.YtiabbkjmgaemaaaGreatDB9
import Derived.Test.YtiabbkjmgaemaaaGreatDB10
import Derived.Test.YtiabbkjmgaemaaaGreatDB11
import Derived.Test.YtiabbkjmgaemaaaGreatDB12
import Derived.Test.YtiabbkjmgaemaaaGreatDB13
import Derived.Test.YtiabbkjmgaemaaaGreatDB14
import Derived.Test.YtiabbkjmgaemaaaGreatDB15
import Derived.Test.YtiabbkjmgaemaaaGreatDB16
import Derived.Test.YtiabbkjmgaemaaaGreatDB17
import Derived.Test.YtiabbkjmgaemaaaGreatDB18
import Derived.Test.YtiabbkjmgaemaaaGreatDB19
namespace Go.Proofs.YtiabbkjmgaemaaaGreat
set_option linter.unusedVariables false
open Go.RowKit

theorem rSome8 (g : Int) (ex : Bool) (left : Int) (a : Option Addr) (n c : Nat) (w : World) :
    Calls Tryz.prog 49 #[.agg #[.int .u32 g, .bool ex, .int .i64 left, .slice a n c]] w fun e w' => e = .returned (.bool (ex || decide (0 < n))) ∧ Below w.heap.size w w' := by
  have h1 : decide ((0 : Int) < (n : Int)) = decide (0 < n) := decide_eq_decide.2 (by omega)
  have H1 := Lib.hid h1
  clear h1
  cases ex
  · go_enter Tryz.func49, Tryz.ntmps49
    go_wp2
    go_ret
    exact ⟨by rw [Bool.false_or, ← H1.out]; simp, bel1 w _⟩
  · go_enter Tryz.func49, Tryz.ntmps49
    go_wp2
    go_ret
    exact ⟨rfl, bel1 w _⟩
def few (l : List Plc) : Nat := l.length + (l.map fun p => p.s.length).sum
theorem few_take (l : List Plc) (i : Nat) : ((l.take i).map fun p => p.s.length).sum ≤ (l.map fun p => p.s.length).sum := by
  have h : (l.map fun p => p.s.length).sum = ((l.take i).map fun p => p.s.length).sum + ((l.drop i).map fun p => p.s.length).sum := by rw [← List.sum_append, ← List.map_append, List.take_append_drop]
  omega
theorem few_one {l : List Plc} {p : Plc} (h : p ∈ l) : p.s.length ≤ few l := by
  have : p.s.length ≤ (l.map fun p => p.s.length).sum := by
    induction l with
    | nil => cases h
    | cons x r ih =>
      simp only [List.map_cons, List.sum_cons]
      rcases List.mem_cons.1 h with rfl | h
      · omega
      · have := ih h; omega
  unfold few; omega
set_option maxRecDepth 100000 in
set_option maxHeartbeats 16000000 in
theorem rFew9 (kp la lim : Int) (a : Option Addr) (n c : Nat) (l : List Plc) (w : World) (hx : l.length = n) (hn : n ≤ 1125899906842624) (hH : Pls w a l) (hs : ∀ p ∈ l, p.s.length ≤ 1125899906842624) :
    Calls Tryz.prog 19 #[.agg #[.int .i64 kp, .int .i64 la, .int .i64 lim, .slice a n c]] w fun e w' => e = .returned (.bool (decide (few l ≤ 2000))) ∧ Below w.heap.size w w' := by
  have HX := Lib.hid hx
  have HS := Lib.hid hs
  obtain ⟨w1, hw1⟩ : ∃ w1, w1 = w.alloc (.cells #[.int .i64 kp, .int .i64 la, .int .i64 lim, .slice a n c] 46) := ⟨_, rfl⟩
  obtain ⟨hv, hb, -⟩ := mkDbW w kp la lim a n c w1 hw1
  have V := Lib.hid hv
  have HB := Lib.hid hb
  have HH := Lib.hid (hH.below hb)
  have HT := Lib.hid (few_take l)
  clear hx hs hv hb hH
  go_enter Tryz.func19, Tryz.ntmps19
  obtain ⟨c0, c1, c2, c3, -⟩ := V.out.cells
  go_wp2_with fail
  rw [← hw1]
  clear hw1
  go_loopw [3, 4] (fun v3 v4 wr => ∃ i : Nat, v3 = .int .i64 ((n + ((l.take i).map fun p => p.s.length).sum : Nat) : Int) ∧ v4 = .int .i64 (i : Int) ∧ i ≤ n ∧ n + ((l.take i).map fun p => p.s.length).sum ≤ 1125899906842624 + 1125899906842624 + 2000 ∧ wr = w1) (fun _ v _ => n - (intOf v).toNat)
  case atStart => exact ⟨0, by simp, rfl, by omega, by simp; omega, rfl⟩
  case round =>
    obtain ⟨i, rfl, rfl, hi, hbd, hw⟩ := hrel
    replace hw := hw.symm
    subst hw
    obtain ⟨N, hN⟩ : ∃ N, n + ((l.take i).map fun p => p.s.length).sum = N := ⟨_, rfl⟩
    rw [hN] at hbd ⊢
    have HN := Lib.hid hN
    clear hN
    by_cases hlt : i < n
    · by_cases h2 : N ≤ 2000
      · obtain ⟨b, off, rfl, hc⟩ := HH.out.at (k := i) (by rw [HX.out]; exact hlt)
        obtain ⟨p, hp⟩ : ∃ p, l[i]? = some p := ⟨_, List.getElem?_eq_getElem (by rw [HX.out]; exact hlt)⟩
        obtain ⟨⟨-, -, -, -, -, -, d6⟩, -⟩ := hc i p hp
        have hps := HS.out p (List.mem_of_getElem? hp)
        obtain ⟨n1, hn1⟩ : ∃ n1, p.s.length = n1 := ⟨_, rfl⟩
        unfold Plc.sl at d6
        rw [hn1] at d6 hps
        have HST : Hid (n + ((l.take (i + 1)).map fun p => p.s.length).sum = N + n1) := Lib.hid (by rw [takeH hp, List.map_append, List.sum_append, ← HN.out]; simp [hn1]; omega)
        have i0 : (0 : Int) ≤ (i : Int) := by omega
        have i1 : (i : Int) < (n : Int) := by omega
        have i2 : (N : Int) ≤ 2000 := by omega
        clear hc hp hn1
        go_wp2_with fail
        go_roundw
        case rel => exact ⟨i + 1, by rw [HST.out]; go_num, by go_num, by omega, by rw [HST.out]; omega, by first | rfl | trivial⟩
        case measure => simp [intOf]; omega
      · have h2' : decide ((N : Int) ≤ 2000) = false := decide_eq_false (by omega)
        have i1 : (i : Int) < (n : Int) := by omega
        have HF : Hid (decide (few l ≤ 2000) = false) := Lib.hid (decide_eq_false (by
          have h3 := HT.out i
          have h4 := HN.out
          have h5 := HX.out
          unfold few
          omega))
        go_wp2_with fail
        go_ret
        exact ⟨ret_bool HF.out.symm, HB.out⟩
    · obtain rfl : i = n := by omega
      have HF : Hid (decide (few l ≤ 2000) = decide ((N : Int) ≤ 2000)) := Lib.hid (decide_eq_decide.2 (by
        have h4 := HN.out
        rw [List.take_of_length_le (by rw [HX.out]; exact Nat.le_refl _)] at h4
        have h5 := HX.out
        unfold few
        omega))
      have hnl : decide ((i : Int) < (i : Int)) = false := decide_eq_false (by omega)
      go_wp2_with fail
      go_ret
      exact ⟨ret_bool HF.out.symm, HB.out⟩
set_option maxRecDepth 100000 in
set_option maxHeartbeats 16000000 in
theorem rRight9 (kp la lim : Int) (a : Option Addr) (n c : Nat) (l : List Plc) (w : World) (hx : l.length = n) (hn : n ≤ 100000) (hH : Pls w a l) (hs : ∀ p ∈ l, p.s.length ≤ 100000) :
    Calls Tryz.prog 20 #[.agg #[.int .i64 kp, .int .i64 la, .int .i64 lim, .slice a n c]] w fun e w' => e = .returned (.bool (decide (okD kp la lim l))) ∧ Below w.heap.size w w' := by
  have HX := Lib.hid hx
  have HS := Lib.hid hs
  obtain ⟨w1, hw1⟩ : ∃ w1, w1 = w.alloc (.cells #[.int .i64 kp, .int .i64 la, .int .i64 lim, .slice a n c] 46) := ⟨_, rfl⟩
  obtain ⟨hv, hb, -⟩ := mkDbW w kp la lim a n c w1 hw1
  have V := Lib.hid hv
  have HB := Lib.hid hb
  have HH := Lib.hid (hH.below hb)
  clear hx hs hv hb hH
  go_enter Tryz.func20, Tryz.ntmps20
  obtain ⟨c0, c1, c2, c3, -⟩ := V.out.cells
  go_wp2_with fail
  rw [← hw1]
  clear hw1 c0 c1 c2 c3
  refine (rMay8 kp la w1).mono ?_
  rintro e w2 ⟨rfl, hb⟩
  replace V := Lib.hid (V.out.below hb V.out.lt)
  replace HB := Lib.hid (HB.out.trans (hb.mono HB.out.size))
  replace HH := Lib.hid (HH.out.below hb)
  clear hb
  obtain ⟨m, hm⟩ : ∃ m, decide (mayP kp la) = m := ⟨_, rfl⟩
  rw [hm]
  have HM := Lib.hid hm
  clear hm
  obtain ⟨c0, c1, c2, c3, -⟩ := V.out.cells
  cases m
  · have HNO : Hid (¬ okD kp la lim l) := Lib.hid (fun h => of_decide_eq_false HM.out h.1)
    go_wp2_with fail
    go_ret
    exact ⟨ret_bool (decide_eq_false HNO.out).symm, HB.out⟩
  by_cases h1 : lim < 0
  · have e1 : decide (lim < 0) = true := decide_eq_true h1
    have HNO : Hid (¬ okD kp la lim l) := Lib.hid (fun h => by have := h.2.1; omega)
    go_wp2_with fail
    go_ret
    exact ⟨ret_bool (decide_eq_false HNO.out).symm, HB.out⟩
  have e1 : decide (lim < 0) = false := decide_eq_false h1
  by_cases h2 : 256 < lim
  · have e2 : decide (256 < lim) = true := decide_eq_true h2
    have HNO : Hid (¬ okD kp la lim l) := Lib.hid (fun h => by have := h.2.1; omega)
    go_wp2_with fail
    go_ret
    exact ⟨ret_bool (decide_eq_false HNO.out).symm, HB.out⟩
  have e2 : decide (256 < lim) = false := decide_eq_false h2
  by_cases h3 : lim < (n : Int)
  · have e3 : decide (lim < (n : Int)) = true := decide_eq_true h3
    have HNO : Hid (¬ okD kp la lim l) := Lib.hid (fun h => by have := h.2.2.1; have := HX.out; omega)
    go_wp2_with fail
    go_ret
    exact ⟨ret_bool (decide_eq_false HNO.out).symm, HB.out⟩
  have e3 : decide (lim < (n : Int)) = false := decide_eq_false h3
  have HBASE : Hid (mayP kp la ∧ (0 ≤ lim ∧ lim ≤ 256) ∧ (l.length : Int) ≤ lim) := Lib.hid ⟨of_decide_eq_true HM.out, by omega, by rw [HX.out]; omega⟩
  clear h1 h2 h3
  go_wp2_with fail
  clear c0 c1 c2 c3 e1 e2 e3
  go_loopw [4] (fun v4 wr => ∃ i : Nat, v4 = .int .i64 (i : Int) ∧ i ≤ n ∧ Ris9 (l.take i) ∧ (∀ p ∈ l.take i, okP p) ∧ Below w2.heap.size w2 wr) (fun v _ => n - (intOf v).toNat)
  case atStart => exact ⟨0, rfl, by omega, by unfold Ris9; simp, by simp, Below.refl _ _⟩
  case round =>
    obtain ⟨i, rfl, hi, hris, hoks, hbr⟩ := hrel
    have HR := Lib.hid hris
    have HOKS := Lib.hid hoks
    have HBR := Lib.hid hbr
    have Vr := Lib.hid (V.out.below hbr V.out.lt)
    clear hris hoks hbr
    obtain ⟨c0, c1, c2, c3, -⟩ := Vr.out.cells
    by_cases hlt : i < n
    · obtain ⟨b, off, rfl, hc⟩ := HH.out.at (k := i) (by rw [HX.out]; exact hlt)
      obtain ⟨p, hp⟩ : ∃ p, l[i]? = some p := ⟨_, List.getElem?_eq_getElem (by rw [HX.out]; exact hlt)⟩
      obtain ⟨hce, hpo⟩ := (hc i p hp).below HBR.out
      have HMEM := Lib.hid (List.mem_of_getElem? hp)
      have hps := HS.out p HMEM.out
      have hgp : 0 ≤ p.g ∧ p.g ≤ 4294967295 := hpo.2.2.1
      obtain ⟨po, v1, v2, g1, ex, left, s1, a1, c1'⟩ := p
      obtain ⟨n1, hn1⟩ : ∃ n1, s1.length = n1 := ⟨_, rfl⟩
      unfold PCs Plc.sl at hce
      simp only [hn1] at hce hps hgp
      obtain ⟨d0, d1, d2, d3, d4, d5, d6⟩ := hce
      have HP := Lib.hid hp
      have HN1 := Lib.hid hn1
      have HPO := Lib.hid hpo
      have HGP := Lib.hid hgp
      have hi0 : (0 : Int) ≤ (i : Int) := by omega
      have hi1 : (i : Int) < (n : Int) := by omega
      have hvr : w.heap.size < wr.heap.size := Vr.out.lt
      clear hc hp hn1 hpo hgp
      go_wp2_with fail
      have hbn := bel1 wr (.cells #[.int .i64 po, .int .i64 v1, .int .i64 v2, .int .u32 g1, .bool ex, .int .i64 left, .slice a1 n1 c1'] 77)
      have HPV := Lib.hid (PV.new wr po v1 v2 g1 ex left a1 n1 c1')
      have HBn := Lib.hid hbn
      have HHn := Lib.hid (HPO.out.1.below hbn)
      clear hbn d0 d1 d2 d3 d4 d5 d6 c0 c1 c2 c3
      generalize wr.alloc (.cells #[.int .i64 po, .int .i64 v1, .int .i64 v2, .int .u32 g1, .bool ex, .int .i64 left, .slice a1 n1 c1'] 77) = w5 at *
      refine (rRight8 g1 ex left a1 n1 c1' s1 w5 HN1.out HHn.out (by omega)).mono ?_
      rintro e w6 ⟨rfl, hb⟩
      obtain ⟨b1, hb1⟩ : ∃ b, decide (okM g1 ex left s1) = b := ⟨_, rfl⟩
      rw [hb1]
      have B1 := Lib.hid hb1
      replace HPV := Lib.hid (HPV.out.below hb HPV.out.lt)
      have HB6 := Lib.hid (HBn.out.trans (hb.mono HBn.out.size))
      have HB9 := Lib.hid (HB.out.trans ((HBR.out.trans (HB6.out.mono HBR.out.size)).mono HB.out.size))
      clear hb hb1 HBn HHn
      obtain ⟨d0, d1, d2, d3, d4, d5, d6, -⟩ := HPV.out.cells
      cases b1
      · have HNO : Hid (¬ okD kp la lim l) := Lib.hid (fun h => of_decide_eq_false B1.out (h.2.2.2.2 _ HMEM.out).2.2.2.1)
        go_wp2_with fail
        go_ret
        exact ⟨ret_bool (decide_eq_false HNO.out).symm, HB9.out⟩
      go_wp2_with fail
      refine (rSome8 g1 ex left a1 n1 c1' w6).mono ?_
      rintro e w7 ⟨rfl, hb⟩
      obtain ⟨b2, hb2⟩ : ∃ b, (ex || decide (0 < n1)) = b := ⟨_, rfl⟩
      rw [hb2]
      have B2 : Hid (sm ⟨po, v1, v2, g1, ex, left, s1, a1, c1'⟩ = b2) := Lib.hid (by rw [← hb2, ← HN1.out]; rfl)
      replace HPV := Lib.hid (HPV.out.below hb HPV.out.lt)
      have HB7 := Lib.hid (HB6.out.trans (hb.mono HB6.out.size))
      replace HB9 := Lib.hid (HB9.out.trans (hb.mono HB9.out.size))
      have HBW := Lib.hid (HBR.out.trans (HB7.out.mono HBR.out.size))
      have V7 := Lib.hid (Vr.out.below HB7.out Vr.out.lt)
      clear hb hb2 d0 d1 d2 d3 d4 d5 d6
      obtain ⟨d0, d1, d2, d3, d4, d5, d6, -⟩ := HPV.out.cells
      obtain ⟨c0, c1, c2, c3, -⟩ := V7.out.cells
      have HB9b : ∀ o : Obj, Below w.heap.size w (w7.alloc o) := fun o => HB9.out.trans ((bel1 w7 o).mono HB9.out.size)
      have HBWb : ∀ o : Obj, Below w2.heap.size w2 (w7.alloc o) := fun o => HBW.out.trans ((bel1 w7 o).mono HBW.out.size)
      have hvx : wr.heap.size < w7.heap.size := HPV.out.lt
      cases b2
      · have HNO : Hid (¬ okD kp la lim l) := Lib.hid (fun h => by have := (h.2.2.2.2 _ HMEM.out).2.2.2.2; rw [B2.out] at this; cases this)
        go_wp2_with fail
        go_ret
        exact ⟨ret_bool (decide_eq_false HNO.out).symm, HB9.out⟩
      by_cases t0 : po < 0
      · have q0 : decide (po < 0) = true := decide_eq_true t0
        have HNO : Hid (¬ okD kp la lim l) := Lib.hid (fun h => by have := h.2.2.2.2 _ HMEM.out; unfold okP at this; simp only at this; omega)
        clear t0
        go_wp2_with fail
        go_ret
        exact ⟨ret_bool (decide_eq_false HNO.out).symm, HB9.out⟩
      have q0 : decide (po < 0) = false := decide_eq_false t0
      by_cases t1 : 63 < po
      · have q1 : decide (63 < po) = true := decide_eq_true t1
        have HNO : Hid (¬ okD kp la lim l) := Lib.hid (fun h => by have := h.2.2.2.2 _ HMEM.out; unfold okP at this; simp only at this; omega)
        clear t1
        go_wp2_with fail
        go_ret
        exact ⟨ret_bool (decide_eq_false HNO.out).symm, HB9.out⟩
      have q1 : decide (63 < po) = false := decide_eq_false t1
      by_cases t2 : v1 < 0
      · have q2 : decide (v1 < 0) = true := decide_eq_true t2
        have HNO : Hid (¬ okD kp la lim l) := Lib.hid (fun h => by have := h.2.2.2.2 _ HMEM.out; unfold okP at this; simp only at this; omega)
        clear t2
        go_wp2_with fail
        go_ret
        exact ⟨ret_bool (decide_eq_false HNO.out).symm, HB9.out⟩
      have q2 : decide (v1 < 0) = false := decide_eq_false t2
      by_cases t3 : 1000000 < v1
      · have q3 : decide (1000000 < v1) = true := decide_eq_true t3
        have HNO : Hid (¬ okD kp la lim l) := Lib.hid (fun h => by have := h.2.2.2.2 _ HMEM.out; unfold okP at this; simp only at this; omega)
        clear t3
        go_wp2_with fail
        go_ret
        exact ⟨ret_bool (decide_eq_false HNO.out).symm, HB9.out⟩
      have q3 : decide (1000000 < v1) = false := decide_eq_false t3
      by_cases t4 : v2 < 0
      · have q4 : decide (v2 < 0) = true := decide_eq_true t4
        have HNO : Hid (¬ okD kp la lim l) := Lib.hid (fun h => by have := h.2.2.2.2 _ HMEM.out; unfold okP at this; simp only at this; omega)
        clear t4
        go_wp2_with fail
        go_ret
        exact ⟨ret_bool (decide_eq_false HNO.out).symm, HB9.out⟩
      have q4 : decide (v2 < 0) = false := decide_eq_false t4
      by_cases t5 : 1000000 < v2
      · have q5 : decide (1000000 < v2) = true := decide_eq_true t5
        have HNO : Hid (¬ okD kp la lim l) := Lib.hid (fun h => by have := h.2.2.2.2 _ HMEM.out; unfold okP at this; simp only at this; omega)
        clear t5
        go_wp2_with fail
        go_ret
        exact ⟨ret_bool (decide_eq_false HNO.out).symm, HB9.out⟩
      have q5 : decide (1000000 < v2) = false := decide_eq_false t5
      have HOKP : Hid (okP ⟨po, v1, v2, g1, ex, left, s1, a1, c1'⟩) := Lib.hid ⟨by simp only; omega, by simp only; omega, by simp only; omega, of_decide_eq_true B1.out, B2.out⟩
      clear t0 t1 t2 t3 t4 t5
      by_cases h0 : i = 0
      · subst h0
        go_wp2_with fail
        go_roundw
        case rel => exact ⟨1, by go_num, by omega, by rw [takeH HP.out]; unfold Ris9; simp, by rw [takeH HP.out]; simpa using HOKP.out, HBW.out⟩
        case measure => simp [intOf]; omega
      · obtain ⟨j, hj⟩ : ∃ j, j + 1 = i := ⟨i - 1, by omega⟩
        obtain ⟨q, hq⟩ : ∃ q, l[j]? = some q := ⟨_, List.getElem?_eq_getElem (by rw [HX.out]; omega)⟩
        obtain ⟨b2, off2, e2, hc2⟩ := HH.out.at (k := j) (by rw [HX.out]; omega)
        cases e2
        obtain ⟨hce2, hpo2⟩ := (hc2 j q hq).below (HBW.out)
        have hgq : 0 ≤ q.g ∧ q.g ≤ 4294967295 := hpo2.2.2.1
        obtain ⟨po2, u1, u2, g2, ex2, left2, s2, a2, c2'⟩ := q
        obtain ⟨n2, hn2⟩ : ∃ n2, s2.length = n2 := ⟨_, rfl⟩
        unfold PCs Plc.sl at hce2
        simp only [hn2] at hce2 hgq
        obtain ⟨k0, k1, k2, k3, k4, k5, k6⟩ := hce2
        have HQ := Lib.hid hq
        have HJ := Lib.hid hj
        have hj0 : (0 : Int) ≤ (j : Int) := by omega
        have hj1 : (j : Int) < (n : Int) := by omega
        have hi0 : (0 : Int) < (i : Int) := by omega
        have hj3 : IntKind.i64.wrap (j : Int) = (j : Int) := vwrap (by omega) (by omega)
        have hj4 : IntKind.i64.wrap ((i : Int) - 1) = (j : Int) := by rw [show (i : Int) - 1 = (j : Int) by omega]; exact hj3
        have hgp := HGP.out
        by_cases hk : po2 * 4294967296 + g2 < po * 4294967296 + g1
        · have HK := Lib.hid hk
          have hk' := (key_lt hgq hgp).1 hk
          have HGO : Hid (Ris9 (l.take (i + 1))) := Lib.hid (ris_snoc9 hj HR.out hq HP.out hk)
          clear hk hc2 hpo2 hq hn2 hgq hgp hj
          by_cases hpp : po2 = po
          · have hl : g2 < g1 := by omega
            have y0 : decide (po < po2) = false := decide_eq_false (by omega)
            have y1 : (po2 == po) = true := by simpa using hpp
            have y2 : decide (g1 ≤ g2) = false := decide_eq_false (by omega)
            clear hk' hl hpp
            go_wp2_with fail
            go_roundw
            case rel => exact ⟨i + 1, by go_num, by omega, HGO.out, by rw [takeH HP.out]; intro y hy; rcases List.mem_append.1 hy with h | h; exact HOKS.out y h; (obtain rfl : y = _ := by simpa using h); exact HOKP.out, HBWb _⟩
            case measure => simp [intOf]; omega
          · have y0 : decide (po < po2) = false := decide_eq_false (by omega)
            have y1 : (po2 == po) = false := by simpa using hpp
            clear hk' hpp
            go_wp2_with fail
            go_roundw
            case rel => exact ⟨i + 1, by go_num, by omega, HGO.out, by rw [takeH HP.out]; intro y hy; rcases List.mem_append.1 hy with h | h; exact HOKS.out y h; (obtain rfl : y = _ := by simpa using h); exact HOKP.out, HBWb _⟩
            case measure => simp [intOf]; omega
        · have HNO : Hid (¬ okD kp la lim l) := Lib.hid (fun h => ris_no9 hj hq HP.out hk h.2.2.2.1)
          have hk' := fun h => hk ((key_lt hgq hgp).2 h)
          clear hk hc2 hpo2 hq hn2 hgq hgp hj
          by_cases hpp : po < po2
          · have y0 : decide (po < po2) = true := decide_eq_true hpp
            clear hk'
            go_wp2_with fail
            go_ret
            exact ⟨ret_bool (decide_eq_false HNO.out).symm, HB9b _⟩
          · have y0 : decide (po < po2) = false := decide_eq_false hpp
            obtain rfl : po2 = po := by
              rcases Int.lt_trichotomy po2 po with h | h | h
              · exact absurd (.inl h) hk'
              · exact h
              · exact absurd h hpp
            have y2 : decide (g1 ≤ g2) = true := decide_eq_true (by
              rcases Int.lt_or_le g2 g1 with h | h
              · exact absurd (.inr ⟨rfl, h⟩) hk'
              · exact h)
            clear hk' hpp
            go_wp2_with fail
            go_ret
            exact ⟨ret_bool (decide_eq_false HNO.out).symm, HB9b _⟩
    · obtain rfl : i = n := by omega
      have HF : Hid (okD kp la lim l) := Lib.hid (by
        have h1 := HR.out
        have h2 := HOKS.out
        rw [List.take_of_length_le (by rw [HX.out]; exact Nat.le_refl _)] at h1 h2
        exact ⟨HBASE.out.1, HBASE.out.2.1, HBASE.out.2.2, h1, h2⟩)
      go_wp2_with fail
      go_ret
      exact ⟨ret_bool (decide_eq_true HF.out).symm, HB.out.trans (HBR.out.mono HB.out.size)⟩
end Go.Proofs.YtiabbkjmgaemaaaGreat
/- The document's Same, of databases; the document's example. -/
namespace Go.Proofs.YtiabbkjmgaemaaaGreat
set_option linter.unusedVariables false
open Go.RowKit

theorem nm_step9 {l m : List Plc} {k : Nat} {p q : Plc} (h : (l.take k).map Plc.nm = (m.take k).map Plc.nm) (hp : l[k]? = some p) (hq : m[k]? = some q) (e : p.nm = q.nm) : (l.take (k + 1)).map Plc.nm = (m.take (k + 1)).map Plc.nm := by
  rw [takeH hp, takeH hq, List.map_append, List.map_append, h]; simp [e]
theorem nm_no9 {l m : List Plc} {k : Nat} {p q : Plc} (hp : l[k]? = some p) (hq : m[k]? = some q) (e : p.nm ≠ q.nm) : l.map Plc.nm ≠ m.map Plc.nm := fun h => by
  have := congrArg (fun x => x[k]?) h
  simp only [List.getElem?_map, hp, hq, Option.map_some, Option.some.injEq] at this
  exact e this
instance : DecidableEq Plc := fun p q => by
  obtain ⟨a1, a2, a3, a4, a5, a6, a7, a8, a9⟩ := p
  obtain ⟨b1, b2, b3, b4, b5, b6, b7, b8, b9⟩ := q
  rw [Plc.mk.injEq]
  infer_instance
/-- Two databases are the same. -/
def sameD (kp la lim : Int) (l : List Plc) (kp' la' lim' : Int) (m : List Plc) : Prop := kp = kp' ∧ la = la' ∧ lim = lim' ∧ l.map Plc.nm = m.map Plc.nm
instance (kp la lim : Int) (l : List Plc) (kp' la' lim' : Int) (m : List Plc) : Decidable (sameD kp la lim l kp' la' lim' m) := by unfold sameD; infer_instance
theorem mkSameDW (w : World) (kp la lim : Int) (a : Option Addr) (n c : Nat) (kp' la' lim' : Int) (a' : Option Addr) (n' c' : Nat) (W : World)
    (hW : W = ((w.alloc (.cells #[.int .i64 kp, .int .i64 la, .int .i64 lim, .slice a n c] 46)).alloc (.cells #[.int .i64 (kp'), .int .i64 (la'), .int .i64 (lim'), .slice (a') (n') (c')] 46))) :
    DV W w.heap.size kp la lim a n c ∧ DV W (w.heap.size + 1) (kp') (la') (lim') (a') (n') (c') ∧ Below w.heap.size w W ∧ W.heap.size = w.heap.size + 2 := by
  subst hW
  have e0 : w.heap.size = w.heap.size := rfl
  have e1 : (w.alloc (.cells #[.int .i64 kp, .int .i64 la, .int .i64 lim, .slice a n c] 46)).heap.size = w.heap.size + 1 := by rw [World.size_alloc]
  have e2 : ((w.alloc (.cells #[.int .i64 kp, .int .i64 la, .int .i64 lim, .slice a n c] 46)).alloc (.cells #[.int .i64 (kp'), .int .i64 (la'), .int .i64 (lim'), .slice (a') (n') (c')] 46)).heap.size = w.heap.size + 2 := by rw [World.size_alloc, e1]
  have u0 := DV.new w kp la lim a n c
  have u1 := DV.new (w.alloc (.cells #[.int .i64 kp, .int .i64 la, .int .i64 lim, .slice a n c] 46)) (kp') (la') (lim') (a') (n') (c')
  rw [e1] at u1
  exact ⟨(u0.keep _), u1, (((Below.refl _ w).alloc (by exact Nat.le_refl _) _).alloc (by rw [e1]; omega) _), e2⟩
theorem mkTwoPW (w : World) (po1 va1 vb1 g1 : Int) (ex1 : Bool) (lf1 : Int) (a1 : Option Addr) (n1 c1 : Nat) (po2 va2 vb2 g2 : Int) (ex2 : Bool) (lf2 : Int) (a2 : Option Addr) (n2 c2 : Nat) (W : World)
    (hW : W = ((w.alloc (.cells #[.int .i64 po1, .int .i64 va1, .int .i64 vb1, .int .u32 g1, .bool ex1, .int .i64 lf1, .slice a1 n1 c1] 77)).alloc (.cells #[.int .i64 po2, .int .i64 va2, .int .i64 vb2, .int .u32 g2, .bool ex2, .int .i64 lf2, .slice a2 n2 c2] 77))) :
    PV W w.heap.size po1 va1 vb1 g1 ex1 lf1 a1 n1 c1 ∧ PV W (w.heap.size + 1) po2 va2 vb2 g2 ex2 lf2 a2 n2 c2 ∧ Below w.heap.size w W ∧ W.heap.size = w.heap.size + 2 := by
  subst hW
  have e0 : w.heap.size = w.heap.size := rfl
  have e1 : (w.alloc (.cells #[.int .i64 po1, .int .i64 va1, .int .i64 vb1, .int .u32 g1, .bool ex1, .int .i64 lf1, .slice a1 n1 c1] 77)).heap.size = w.heap.size + 1 := by rw [World.size_alloc]
  have e2 : ((w.alloc (.cells #[.int .i64 po1, .int .i64 va1, .int .i64 vb1, .int .u32 g1, .bool ex1, .int .i64 lf1, .slice a1 n1 c1] 77)).alloc (.cells #[.int .i64 po2, .int .i64 va2, .int .i64 vb2, .int .u32 g2, .bool ex2, .int .i64 lf2, .slice a2 n2 c2] 77)).heap.size = w.heap.size + 2 := by rw [World.size_alloc, e1]
  have u0 := PV.new w po1 va1 vb1 g1 ex1 lf1 a1 n1 c1
  have u1 := PV.new (w.alloc (.cells #[.int .i64 po1, .int .i64 va1, .int .i64 vb1, .int .u32 g1, .bool ex1, .int .i64 lf1, .slice a1 n1 c1] 77)) po2 va2 vb2 g2 ex2 lf2 a2 n2 c2
  rw [e1] at u1
  exact ⟨(u0.keep _), u1, (((Below.refl _ w).alloc (by exact Nat.le_refl _) _).alloc (by rw [e1]; omega) _), e2⟩
set_option maxRecDepth 100000 in
set_option maxHeartbeats 16000000 in
theorem rSame9 (kp la lim : Int) (a : Option Addr) (n c : Nat) (l : List Plc) (kp' la' lim' : Int) (a' : Option Addr) (n' c' : Nat) (m : List Plc) (w : World) (hx : l.length = n) (hx' : m.length = n') (hn : n ≤ 9223372036854775806) (hn' : n' ≤ 9223372036854775806) (hH : Pls w a l) (hH' : Pls w a' m) (hs : ∀ p ∈ l, p.s.length ≤ 9223372036854775807) (hs' : ∀ p ∈ m, p.s.length ≤ 9223372036854775807) :
    Calls Tryz.prog 25 #[.agg #[.int .i64 kp, .int .i64 la, .int .i64 lim, .slice a n c], .agg #[.int .i64 kp', .int .i64 la', .int .i64 lim', .slice a' n' c']] w fun e w' => e = .returned (.bool (decide (sameD kp la lim l kp' la' lim' m))) ∧ Below w.heap.size w w' := by
  have HX := Lib.hid hx
  have HX' := Lib.hid hx'
  have HS := Lib.hid hs
  have HS' := Lib.hid hs'
  obtain ⟨w2, hw2⟩ : ∃ w2, w2 = (w.alloc (.cells #[.int .i64 kp, .int .i64 la, .int .i64 lim, .slice a n c] 46)).alloc (.cells #[.int .i64 kp', .int .i64 la', .int .i64 lim', .slice a' n' c'] 46) := ⟨_, rfl⟩
  obtain ⟨hv, hv', hb, -⟩ := mkSameDW w kp la lim a n c kp' la' lim' a' n' c' w2 hw2
  have V := Lib.hid hv
  have V' := Lib.hid hv'
  have HB := Lib.hid hb
  have HH := Lib.hid (hH.below hb)
  have HH' := Lib.hid (hH'.below hb)
  clear hx hx' hs hs' hv hv' hb hH hH'
  go_enter Tryz.func25, Tryz.ntmps25
  by_cases h1 : ¬ (kp = kp' ∧ la = la')
  · have HNO : Hid (¬ sameD kp la lim l kp' la' lim' m) := Lib.hid (fun h => h1 ⟨h.1, h.2.1⟩)
    have e1 : (kp == kp') = true ∧ (la == la') = false ∨ (kp == kp') = false := by
      by_cases h2 : kp = kp'
      · exact .inl ⟨by simpa using h2, by simpa using fun h3 => h1 ⟨h2, h3⟩⟩
      · exact .inr (by simpa using h2)
    clear h1
    rcases e1 with ⟨e1, e2⟩ | e1
    · go_wp2_with fail
      go_ret
      exact ⟨ret_bool (decide_eq_false HNO.out).symm, by rw [← hw2]; exact HB.out⟩
    · go_wp2_with fail
      go_ret
      exact ⟨ret_bool (decide_eq_false HNO.out).symm, by rw [← hw2]; exact HB.out⟩
  obtain ⟨rfl, rfl⟩ := Classical.not_not.1 h1
  clear h1
  by_cases h2 : ¬ lim = lim'
  · have HNO : Hid (¬ sameD kp la lim l kp la lim' m) := Lib.hid (fun h => h2 h.2.2.1)
    have e1 : (lim != lim') = true := by simpa using h2
    clear h2
    go_wp2_with fail
    go_ret
    exact ⟨ret_bool (decide_eq_false HNO.out).symm, by rw [← hw2]; exact HB.out⟩
  obtain rfl := Classical.not_not.1 h2
  clear h2
  by_cases h3 : ¬ n = n'
  · have HNO : Hid (¬ sameD kp la lim l kp la lim m) := Lib.hid (fun h => h3 (by have := congrArg List.length h.2.2.2; simp only [List.length_map] at this; rw [← HX.out, ← HX'.out]; exact this))
    have e1 : ((n : Int) != (n' : Int)) = true := by simp; omega
    clear h3
    go_wp2_with fail
    go_ret
    exact ⟨ret_bool (decide_eq_false HNO.out).symm, by rw [← hw2]; exact HB.out⟩
  obtain rfl := Classical.not_not.1 h3
  clear h3
  go_wp2_with fail
  rw [← hw2]
  clear hw2
  go_loopw [5] (fun v5 wr => ∃ i : Nat, v5 = .int .i64 (i : Int) ∧ i ≤ n ∧ (l.take i).map Plc.nm = (m.take i).map Plc.nm ∧ Below w2.heap.size w2 wr) (fun v _ => n - (intOf v).toNat)
  case atStart => exact ⟨0, rfl, by omega, by simp, Below.refl _ _⟩
  case round =>
    obtain ⟨i, rfl, hi, hre, hbr⟩ := hrel
    have HR := Lib.hid hre
    have HBR := Lib.hid hbr
    have Vr := Lib.hid (V.out.below hbr V.out.lt)
    have Vr' := Lib.hid (V'.out.below hbr V'.out.lt)
    clear hre hbr
    obtain ⟨c0, c1, c2, c3, -⟩ := Vr.out.cells
    obtain ⟨k0, k1, k2, k3, -⟩ := Vr'.out.cells
    by_cases hlt : i < n
    · obtain ⟨b, off, rfl, hc⟩ := HH.out.at (k := i) (by rw [HX.out]; exact hlt)
      obtain ⟨b', off', rfl, hc'⟩ := HH'.out.at (k := i) (by rw [HX'.out]; exact hlt)
      obtain ⟨p, hp⟩ : ∃ p, l[i]? = some p := ⟨_, List.getElem?_eq_getElem (by rw [HX.out]; exact hlt)⟩
      obtain ⟨q, hq⟩ : ∃ q, m[i]? = some q := ⟨_, List.getElem?_eq_getElem (by rw [HX'.out]; exact hlt)⟩
      obtain ⟨hce, hpo⟩ := (hc i p hp).below HBR.out
      obtain ⟨hce', hpo'⟩ := (hc' i q hq).below HBR.out
      have hps := HS.out p (List.mem_of_getElem? hp)
      have hqs := HS'.out q (List.mem_of_getElem? hq)
      obtain ⟨po1, va1, vb1, g1, ex1, lf1, s1, a1, c1'⟩ := p
      obtain ⟨po2, va2, vb2, g2, ex2, lf2, s2, a2, c2'⟩ := q
      obtain ⟨n1, hn1⟩ : ∃ n1, s1.length = n1 := ⟨_, rfl⟩
      obtain ⟨n2, hn2⟩ : ∃ n2, s2.length = n2 := ⟨_, rfl⟩
      unfold PCs Plc.sl at hce hce'
      simp only [hn1, hn2] at hce hce' hps hqs
      obtain ⟨d0, d1, d2, d3, d4, d5, d6⟩ := hce
      obtain ⟨j0, j1, j2, j3, j4, j5, j6⟩ := hce'
      have HP := Lib.hid hp
      have HQ := Lib.hid hq
      have HN1 := Lib.hid hn1
      have HN2 := Lib.hid hn2
      have hi0 : (0 : Int) ≤ (i : Int) := by omega
      have hi1 : (i : Int) < (n : Int) := by omega
      have hv1 : w.heap.size < wr.heap.size := Vr.out.lt
      have hv2 : w.heap.size + 1 < wr.heap.size := Vr'.out.lt
      have hb0 : b' < wr.heap.size := cell_lt j0
      obtain ⟨w5, hw5⟩ : ∃ w5, w5 = (wr.alloc (.cells #[.int .i64 po1, .int .i64 va1, .int .i64 vb1, .int .u32 g1, .bool ex1, .int .i64 lf1, .slice a1 n1 (c1')] 77)).alloc (.cells #[.int .i64 po2, .int .i64 va2, .int .i64 vb2, .int .u32 g2, .bool ex2, .int .i64 lf2, .slice a2 n2 (c2')] 77) := ⟨_, rfl⟩
      obtain ⟨u1, u2, hb5, -⟩ := mkTwoPW wr po1 va1 vb1 g1 ex1 lf1 a1 n1 c1' po2 va2 vb2 g2 ex2 lf2 a2 n2 c2' w5 hw5
      have U1 := Lib.hid u1
      have U2 := Lib.hid u2
      have HB5 := Lib.hid hb5
      have HP1 := Lib.hid (hpo.1.below hb5)
      have HP2 := Lib.hid (hpo'.1.below hb5)
      clear hc hc' hp hq hn1 hn2 hpo hpo' u1 u2 hb5
      go_wp2_with fail
      rw [← hw5]
      clear hw5 d0 d1 d2 d3 d4 d5 d6 j0 j1 j2 j3 j4 j5 j6 c0 c1 c2 c3 k0 k1 k2 k3
      refine (rSame8 g1 ex1 lf1 a1 n1 c1' s1 g2 ex2 lf2 a2 n2 c2' s2 w5 HN1.out HN2.out hps hqs HP1.out HP2.out).mono ?_
      rintro e w6 ⟨rfl, hb⟩
      obtain ⟨b1, hb1⟩ : ∃ b, decide (g1 = g2 ∧ ex1 = ex2 ∧ lf1 = lf2 ∧ s1 = s2) = b := ⟨_, rfl⟩
      rw [hb1]
      have B1 := Lib.hid hb1
      replace U1 := Lib.hid (U1.out.below hb U1.out.lt)
      replace U2 := Lib.hid (U2.out.below hb U2.out.lt)
      have HB6 := Lib.hid (HB5.out.trans (hb.mono HB5.out.size))
      have HBW := Lib.hid (HBR.out.trans (HB6.out.mono HBR.out.size))
      have HB9 := Lib.hid (HB.out.trans (HBW.out.mono HB.out.size))
      clear hb hb1
      obtain ⟨d0, d1, d2, d3, d4, d5, d6, -⟩ := U1.out.cells
      obtain ⟨j0, j1, j2, j3, j4, j5, j6, -⟩ := U2.out.cells
      cases b1
      · have HNO : Hid (¬ sameD kp la lim l kp la lim m) := Lib.hid (fun h => nm_no9 HP.out HQ.out (fun e => of_decide_eq_false B1.out (nm_eq9.1 e).2) h.2.2.2)
        go_wp2_with fail
        go_ret
        exact ⟨ret_bool (decide_eq_false HNO.out).symm, HB9.out⟩
      by_cases f1 : po1 = po2
      · have q1 : (po1 != po2) = false := by simpa using f1
        by_cases f2 : va1 = va2
        · have q2 : (va1 != va2) = false := by simpa using f2
          by_cases f3 : vb1 = vb2
          · have q3 : (vb1 != vb2) = false := by simpa using f3
            have HEQ : Hid ((l.take (i + 1)).map Plc.nm = (m.take (i + 1)).map Plc.nm) := Lib.hid (nm_step9 HR.out HP.out HQ.out (nm_eq9.2 ⟨⟨f1, f2, f3⟩, (of_decide_eq_true B1.out)⟩))
            clear f1 f2 f3
            go_wp2_with fail
            go_roundw
            case rel => exact ⟨i + 1, by go_num, by omega, HEQ.out, HBW.out⟩
            case measure => simp [intOf]; omega
          · have q3 : (vb1 != vb2) = true := by simpa using f3
            have HNO : Hid (¬ sameD kp la lim l kp la lim m) := Lib.hid (fun h => nm_no9 HP.out HQ.out (fun e => f3 (nm_eq9.1 e).1.2.2) h.2.2.2)
            clear f3
            go_wp2_with fail
            go_ret
            exact ⟨ret_bool (decide_eq_false HNO.out).symm, HB9.out⟩
        · have q2 : (va1 != va2) = true := by simpa using f2
          have HNO : Hid (¬ sameD kp la lim l kp la lim m) := Lib.hid (fun h => nm_no9 HP.out HQ.out (fun e => f2 (nm_eq9.1 e).1.2.1) h.2.2.2)
          clear f2
          go_wp2_with fail
          go_ret
          exact ⟨ret_bool (decide_eq_false HNO.out).symm, HB9.out⟩
      · have q1 : (po1 != po2) = true := by simpa using f1
        have HNO : Hid (¬ sameD kp la lim l kp la lim m) := Lib.hid (fun h => nm_no9 HP.out HQ.out (fun e => f1 (nm_eq9.1 e).1.1) h.2.2.2)
        clear f1
        go_wp2_with fail
        go_ret
        exact ⟨ret_bool (decide_eq_false HNO.out).symm, HB9.out⟩
    · obtain rfl : i = n := by omega
      have HF : Hid (sameD kp la lim l kp la lim m) := Lib.hid (by
        have h1 := HR.out
        rw [List.take_of_length_le (by rw [HX.out]; exact Nat.le_refl _), List.take_of_length_le (by rw [HX'.out]; exact Nat.le_refl _)] at h1
        exact ⟨rfl, rfl, rfl, h1⟩)
      go_wp2_with fail
      go_ret
      exact ⟨ret_bool (decide_eq_true HF.out).symm, HB.out.trans (HBR.out.mono HB.out.size)⟩
end Go.Proofs.YtiabbkjmgaemaaaGreat
/- The document's example. -/
namespace Go.Proofs.YtiabbkjmgaemaaaGreat
set_option linter.unusedVariables false
open Go.RowKit

def P0x : Plc := ⟨3, 0, 10, 4009820675, true, 10, [], none, 0⟩
theorem sh_fold : agL 22 10 (3 * 4294967296 + 4009820675) (fold9 10 2 1 3 (List.map Plc.nm []) (recsP 22 4009820675 [])).1 = [P0x] ∧ (fold9 10 2 1 3 (List.map Plc.nm []) (recsP 22 4009820675 [])).2.1 = [] ∧ (fold9 10 2 1 3 (List.map Plc.nm []) (recsP 22 4009820675 [])).2.2 = 0 := ⟨by kernel_rfl, by kernel_rfl, by kernel_rfl⟩
theorem sh_ok : okD 10 2 1 (List.map Plc.nm []) := by decide +kernel
theorem sh_ok2 : okD 10 2 1 [P0x] := by decide +kernel
theorem sh_w : wants9 [P0x] (3 * 4294967296 + 4009820675) 7 = true := by decide +kernel
theorem wants_nm (l : List Plc) (id x : Int) : wants9 (l.map Plc.nm) id x = wants9 l id x := by
  unfold wants9
  rw [at9_nm]
  cases at9 id l <;> rfl
theorem okD_nm {kp la lim : Int} {l : List Plc} : okD kp la lim (l.map Plc.nm) ↔ okD kp la lim l := by
  unfold okD
  rw [List.length_map, ris_nm]
  constructor
  · rintro ⟨h1, h2, h3, h4, h5⟩
    exact ⟨h1, h2, h3, h4, fun p hp => (okP_nm p).1 (h5 _ (List.mem_map_of_mem hp))⟩
  · rintro ⟨h1, h2, h3, h4, h5⟩
    refine ⟨h1, h2, h3, h4, fun p hp => ?_⟩
    obtain ⟨q, hq, rfl⟩ := List.mem_map.1 hp
    exact (okP_nm q).2 (h5 q hq)
theorem okW_of {kp la lim : Int} {l : List Plc} (h : okD kp la lim l) : okW l := fun p hp => by
  have h1 := (h.2.2.2.2 p hp).2.2.2.1
  exact ⟨h1.inc, h1.nn, by have := h1.2.1; omega⟩
set_option maxRecDepth 100000 in
set_option maxHeartbeats 16000000 in
theorem dShown (w : World) : Calls Tryz.prog 18 #[] w fun e w' => e = .returned (.bool true) ∧ Below w.heap.size w w' := by
  go_enter Tryz.func18, Tryz.ntmps18
  go_wp2_with fail
  refine (dNew 10 2 1 w).mono ?_
  rintro e w1 ⟨h, hb⟩
  have he : e = .returned (.tuple #[.agg #[.int .i64 10, .int .i64 2, .int .i64 1, .slice none 0 0], .int .i64 0]) := by
    rcases h with ⟨_, h⟩ | ⟨h, _⟩
    · exact h
    · exact absurd (by decide) h
  subst he
  have HB1 := Lib.hid hb
  clear h hb
  go_wp2_with fail
  have hb2 := bel1 w1 (.cells #[.int .i64 10, .int .i64 2, .int .i64 1, .slice none 0 0] 46)
  have HB2 := Lib.hid (HB1.out.trans (hb2.mono HB1.out.size))
  clear hb2
  generalize w1.alloc (.cells #[.int .i64 10, .int .i64 2, .int .i64 1, .slice none 0 0] 46) = w2 at *
  refine (dHear9 10 2 1 none 0 0 [] 3 22 0 0 4009820675 false 0 0 none 0 0 none 0 0 [] w2 rfl sh_ok (Pls.nil _ _) (by unfold isI; omega) (by omega) rfl (.inl rfl) (by decide +kernel) (by decide +kernel)).mono ?_
  rintro e w3 h
  rw [if_pos (by omega), sh_fold.1, sh_fold.2.1, sh_fold.2.2] at h
  obtain ⟨⟨a, c, l, aq, cq, rs, rfl, hl, ho, hp, hq, hqo, hqk⟩, hb⟩ := h
  obtain ⟨p, rfl, hpn⟩ : ∃ p, l = [p] ∧ p.nm = P0x := by
    rcases l with _ | ⟨p, _ | ⟨q, r⟩⟩
    · simp at hl
    · exact ⟨p, rfl, by simpa using hl⟩
    · simp at hl
  obtain rfl : rs = [] := by simpa using hq
  have hlen1 : ([p] : List Plc).length = 1 := rfl
  rw [hlen1] at ho
  simp only [List.length_cons, List.length_nil, Nat.zero_add]
  obtain ⟨g, rfl, -, hnc, -⟩ := kown_at ho (by omega)
  have hpl := own_pls ho rfl (fun q hq => (hp q hq).ok)
  have hpt := hp p (by simp)
  obtain ⟨po, v1, v2, g1, ex, left, s1, a1, c1⟩ := p
  simp only [Plc.nm, P0x, Plc.mk.injEq] at hpn
  obtain ⟨rfl, rfl, rfl, rfl, rfl, rfl, rfl, -, -⟩ := hpn
  have HO3 := Lib.hid ho
  have HPL3 := Lib.hid hpl
  have HB3 := Lib.hid (HB2.out.trans (hb.mono HB2.out.size))
  clear ho hpl hb hp hl hq hqo hqk hlen1 hpt
  go_wp2_with fail
  have hbn := bel1 w3 (.cells #[.int .i64 10, .int .i64 2, .int .i64 1, .slice (some ⟨g, 0, none⟩) 1 c] 46)
  have hv := DV.new w3 10 2 1 (some ⟨g, 0, none⟩) 1 c
  have HO4 := Lib.hid (own_grown HO3.out hbn (Nat.le_refl _))
  have HPL4 := Lib.hid (HPL3.out.below hbn)
  have HB4 := Lib.hid (HB3.out.trans (hbn.mono HB3.out.size))
  have V := Lib.hid hv
  clear hbn hv
  generalize w3.alloc (.cells #[.int .i64 10, .int .i64 2, .int .i64 1, .slice (some ⟨g, 0, none⟩) 1 c] 46) = w4 at *
  have hok2 : okD 10 2 1 [(⟨3, 0, 10, 4009820675, true, 10, [], a1, c1⟩ : Plc)] := okD_nm.1 sh_ok2
  refine (dWants 10 2 1 (some ⟨g, 0, none⟩) 1 c [⟨3, 0, 10, 4009820675, true, 10, [], a1, c1⟩] 3 4009820675 7 w4 rfl (by omega) HPL4.out hok2.2.2.2.1 (okW_of hok2) (by omega)).mono ?_
  rintro e w5 ⟨rfl, hb⟩
  rw [← wants_nm]
  rw [show wants9 (List.map Plc.nm [(⟨3, 0, 10, 4009820675, true, 10, [], a1, c1⟩ : Plc)]) (3 * 4294967296 + 4009820675) 7 = true from sh_w]
  replace V := Lib.hid (V.out.below hb V.out.lt)
  have HO5 := Lib.hid (own_grown HO4.out hb (Nat.le_refl _))
  have HPL5 := Lib.hid (HPL4.out.below hb)
  have HB5 := Lib.hid (HB4.out.trans (hb.mono HB4.out.size))
  clear hb
  obtain ⟨c0, c1', c2, c3, -⟩ := V.out.cells
  obtain ⟨hpc, -⟩ := own_pcs (i := 0) HO5.out rfl
  unfold PCs at hpc
  simp only [Nat.zero_mul, Nat.zero_add] at hpc
  obtain ⟨y0, y1, y2, y3, y4, y5, y6⟩ := hpc
  clear y6
  go_wp2_with fail
  have hsl : ∀ q ∈ [(⟨3, 0, 10, 4009820675, true, 10, [], a1, c1⟩ : Plc)], q.s.length ≤ 100000 := by
    intro q hq
    obtain rfl : q = _ := by simpa using hq
    simp
  refine (dRight9 10 2 1 (some ⟨g, 0, none⟩) 1 c [⟨3, 0, 10, 4009820675, true, 10, [], a1, c1⟩] w5 rfl (by omega) HPL5.out hsl).mono ?_
  rintro e w6 ⟨rfl, hb⟩
  rw [decide_eq_true hok2]
  have HB6 := Lib.hid (HB5.out.trans (hb.mono HB5.out.size))
  clear hb
  go_wp2_with fail
  go_ret
  exact ⟨rfl, HB6.out⟩
end Go.Proofs.YtiabbkjmgaemaaaGreat
