/- The law HostGroups: every call returns true, and its arguments read behind the call as before it. Condition: none but the row's own. -/
import Derived.Test.YtmcbbccbonadjaaW13
namespace Go.Proofs.Ytmcbbccbonadjaa.hostGroups
set_option linter.unusedVariables false
open Go.ChangeShapes Go.WideShapes Go.ChangeAt Go.RowKit
open Go.ChangeMaps (open_string shut_string)

def hgV (N B0 : Nat) (a : Option Addr) (n c gb go' m cg k : Nat) (g : Int) (e1 : Bool) (l1 : List Int) : Nat → Value → List Value → World → Prop
  | 0, v, _, _ => v = .agg #[.slice a n c]
  | 1, v, _, _ => v = .slice (some ⟨gb, go', none⟩) m cg
  | 2, v, _, _ => v = .int .i64 (k : Nat)
  | 3, v, _, _ => v = .pointer (some ⟨gb, go' + k, none⟩)
  | 4, v, _, _ => v = .int .u32 g
  | 5, v, _, w => ∃ (a31 : Option Addr) (c31 : Nat), v = .agg #[.bool e1, .slice a31 l1.length c31] ∧ As w a31 l1
  | 6, v, _, w => ∃ (B9 : Nat), v = .pointer (some ⟨B9, 0, none⟩) ∧ B0 ≤ B9 ∧ FBx w B9
  | 7, v, us, w => ∃ B a31 c31, us = [.pointer (some ⟨B, 0, none⟩), .agg #[.bool e1, .slice a31 l1.length c31]] ∧ B0 ≤ B ∧ w.heap[B]? = some (.cells #[.bool e1, .slice a31 l1.length c31] 25 (0, 0))
  | _, _, _, _ => True
def hgD : Nat → List Nat
  | 3 => [1, 2]
  | 4 => [3]
  | 5 => [0, 4]
  | 7 => [6, 5]
  | _ => []
theorem hg_st (N B0 : Nat) (a : Option Addr) (n c gb go' m cg k : Nat) (g : Int) (e1 : Bool) (l1 : List Int) {i : Nat} {v : Value} {us : List Value} {w w' : World} {j : Nat} (hne : i ≠ j) (hr : fR B0 7 j w w') (hv : hgV N B0 a n c gb go' m cg k g e1 l1 i v us w) : hgV N B0 a n c gb go' m cg k g e1 l1 i v us w' := by
  unfold hgV at hv ⊢
  split at hv
  all_goals first
    | exact hv
    | (obtain ⟨a31, c31, e, h31⟩ := hv; exact ⟨a31, c31, e, h31.ftm hr.2.1⟩)
    | (obtain ⟨B9, e, b9, x9⟩ := hv; exact ⟨B9, e, b9, (hr.2.2 _ (by omega) x9)⟩)
    | (obtain ⟨B, a31, c31, h1, h2, h3⟩ := hv; rcases hr.1 with e | e; exact absurd e.symm hne; exact ⟨B, a31, c31, h1, h2, (e.block _ (Array.getElem?_eq_some_iff.1 h3).1).trans h3⟩)
def hgTV (N : Nat) (gb go' m cg rb ro cr k : Nat) (g x : Int) (B9 : Nat) (a31 : Option Addr) (c31 : Nat) (l1 : List Int) (ra : Option Addr) (rc : Nat) (hin1 : Bool) : Nat → Value → List Value → World → Prop
  | 0, v, _, _ => v = .slice (some ⟨rb, ro, none⟩) m cr
  | 1, v, _, _ => v = .int .i64 (k : Nat)
  | 2, v, _, _ => v = .pointer (some ⟨rb, ro + k * 3, none⟩)
  | 3, v, _, _ => v = .pointer (some ⟨rb, ro + k * 3 + 1, none⟩)
  | 4, v, _, _ => v = .int .u32 g
  | 5, v, _, _ => v = .slice (some ⟨gb, go', none⟩) m cg
  | 6, v, _, _ => v = .int .i64 (k : Nat)
  | 7, v, _, _ => v = .pointer (some ⟨gb, go' + k, none⟩)
  | 8, v, _, _ => v = .int .u32 g
  | 9, v, _, _ => v = .bool false
  | 10, v, _, _ => v = .bool false
  | 11, v, _, _ => v = .slice (some ⟨rb, ro, none⟩) m cr
  | 12, v, _, _ => v = .int .i64 (k : Nat)
  | 13, v, _, _ => v = .pointer (some ⟨rb, ro + k * 3, none⟩)
  | 14, v, _, _ => v = .pointer (some ⟨rb, ro + k * 3, none⟩)
  | 15, v, _, _ => v = .int .u8 2
  | 16, v, _, _ => v = .bool true
  | 17, v, _, _ => v = .bool true
  | 18, v, _, _ => v = .bool true
  | 19, v, _, _ => v = .bool false
  | 20, v, _, _ => v = .bool false
  | 21, v, _, _ => v = .bool false
  | 22, v, _, _ => v = .bool false
  | 23, v, _, _ => v = .agg #[.bool true, .slice a31 l1.length c31]
  | 24, v, _, _ => v = .int .u32 x
  | 25, v, _, _ => v = .bool (hin1 != true)
  | 26, v, _, _ => v = .slice (some ⟨rb, ro, none⟩) m cr
  | 27, v, _, _ => v = .int .i64 (k : Nat)
  | 28, v, _, _ => v = .pointer (some ⟨rb, ro + k * 3, none⟩)
  | 29, v, _, _ => v = .pointer (some ⟨rb, ro + k * 3 + 2, none⟩)
  | 30, v, _, _ => v = .slice ra l1.length rc
  | 31, v, _, _ => v = .int .u32 x
  | 32, v, _, _ => v = .bool hin1
  | 33, v, _, _ => v = .bool true
  | 34, v, _, _ => v = .bool (hin1 != true)
  | 35, v, _, _ => v = .bool false
  | 36, v, _, _ => v = .bool false
  | 37, v, _, _ => v = .bool false
  | 38, v, _, _ => v = .bool true
  | 39, v, _, _ => v = .bool false
  | 40, v, _, _ => v = .bool false
  | 41, v, _, _ => v = undef
  | 42, v, _, _ => v = undef
  | 43, v, _, _ => v = undef
  | 44, v, _, _ => v = undef
  | 45, v, _, _ => v = undef
  | 46, v, _, _ => v = undef
  | 47, v, _, _ => v = undef
  | 48, v, _, _ => v = .bool false
  | 49, v, _, _ => v = .bool false
  | _, _, _, _ => True
def hgTD : Nat → List Nat
  | 2 => [0, 1]
  | 3 => [2]
  | 4 => [3]
  | 7 => [5, 6]
  | 8 => [7]
  | 9 => [4, 8]
  | 10 => [9]
  | 11 => [10]
  | 12 => [10]
  | 13 => [11, 12, 10]
  | 14 => [13, 10]
  | 15 => [14, 10]
  | 16 => [15, 10]
  | 17 => [16, 10]
  | 18 => [17]
  | 19 => [18, 17]
  | 20 => [17, 19, 10]
  | 21 => [10, 20]
  | 22 => [21]
  | 23 => [22]
  | 24 => [22]
  | 25 => [23, 24, 22]
  | 26 => [22]
  | 27 => [22]
  | 28 => [26, 27, 22]
  | 29 => [28, 22]
  | 30 => [29, 22]
  | 31 => [22]
  | 32 => [30, 31, 22]
  | 33 => [22]
  | 34 => [32, 33, 22]
  | 35 => [25, 34, 22]
  | 36 => [22, 35]
  | 37 => [36]
  | 38 => [37]
  | 39 => [38, 37]
  | 40 => [39, 37]
  | 41 => [40]
  | 42 => [40]
  | 43 => [41, 42, 40]
  | 44 => [43, 40]
  | 45 => [44, 40]
  | 46 => [45, 40]
  | 47 => [46, 40]
  | 48 => [40, 47, 37]
  | 49 => [37, 48]
  | _ => []
def hgTN (i : Nat) : Bool := !([41, 42, 43, 44, 45, 46, 47] : List Nat).contains i
theorem hgT_st (N : Nat) (gb go' m cg rb ro cr k : Nat) (g x : Int) (B9 : Nat) (a31 : Option Addr) (c31 : Nat) (l1 : List Int) (ra : Option Addr) (rc : Nat) (hin1 : Bool) {i : Nat} {v : Value} {us : List Value} {w w' : World}  (hr : True) (hv : hgTV N gb go' m cg rb ro cr k g x B9 a31 c31 l1 ra rc hin1 i v us w) : hgTV N gb go' m cg rb ro cr k g x B9 a31 c31 l1 ra rc hin1 i v us w' := by
  unfold hgTV at hv ⊢
  split at hv
  all_goals first
    | exact hv
def hgFV (N : Nat) (gb go' m cg rb ro cr k : Nat) (g x : Int) (B9 : Nat) (a31 : Option Addr) (c31 : Nat) (l1 : List Int) (ra : Option Addr) (rc : Nat) (hin1 : Bool) : Nat → Value → List Value → World → Prop
  | 0, v, _, _ => v = .slice (some ⟨rb, ro, none⟩) m cr
  | 1, v, _, _ => v = .int .i64 (k : Nat)
  | 2, v, _, _ => v = .pointer (some ⟨rb, ro + k * 3, none⟩)
  | 3, v, _, _ => v = .pointer (some ⟨rb, ro + k * 3 + 1, none⟩)
  | 4, v, _, _ => v = .int .u32 g
  | 5, v, _, _ => v = .slice (some ⟨gb, go', none⟩) m cg
  | 6, v, _, _ => v = .int .i64 (k : Nat)
  | 7, v, _, _ => v = .pointer (some ⟨gb, go' + k, none⟩)
  | 8, v, _, _ => v = .int .u32 g
  | 9, v, _, _ => v = .bool false
  | 10, v, _, _ => v = .bool false
  | 11, v, _, _ => v = .slice (some ⟨rb, ro, none⟩) m cr
  | 12, v, _, _ => v = .int .i64 (k : Nat)
  | 13, v, _, _ => v = .pointer (some ⟨rb, ro + k * 3, none⟩)
  | 14, v, _, _ => v = .pointer (some ⟨rb, ro + k * 3, none⟩)
  | 15, v, _, _ => v = .int .u8 1
  | 16, v, _, _ => v = .bool false
  | 17, v, _, _ => v = .bool false
  | 18, v, _, _ => v = undef
  | 19, v, _, _ => v = undef
  | 20, v, _, _ => v = .bool false
  | 21, v, _, _ => v = .bool false
  | 22, v, _, _ => v = .bool false
  | 23, v, _, _ => v = .agg #[.bool false, .slice a31 l1.length c31]
  | 24, v, _, _ => v = .int .u32 x
  | 25, v, _, _ => v = .bool (hin1 != false)
  | 26, v, _, _ => v = .slice (some ⟨rb, ro, none⟩) m cr
  | 27, v, _, _ => v = .int .i64 (k : Nat)
  | 28, v, _, _ => v = .pointer (some ⟨rb, ro + k * 3, none⟩)
  | 29, v, _, _ => v = .pointer (some ⟨rb, ro + k * 3 + 2, none⟩)
  | 30, v, _, _ => v = .slice ra l1.length rc
  | 31, v, _, _ => v = .int .u32 x
  | 32, v, _, _ => v = .bool hin1
  | 33, v, _, _ => v = .bool false
  | 34, v, _, _ => v = .bool (hin1 != false)
  | 35, v, _, _ => v = .bool false
  | 36, v, _, _ => v = .bool false
  | 37, v, _, _ => v = .bool false
  | 38, v, _, _ => v = .bool false
  | 39, v, _, _ => v = .bool true
  | 40, v, _, _ => v = .bool true
  | 41, v, _, _ => v = .slice (some ⟨rb, ro, none⟩) m cr
  | 42, v, _, _ => v = .int .i64 (k : Nat)
  | 43, v, _, _ => v = .pointer (some ⟨rb, ro + k * 3, none⟩)
  | 44, v, _, _ => v = .pointer (some ⟨rb, ro + k * 3 + 2, none⟩)
  | 45, v, _, _ => v = .slice ra l1.length rc
  | 46, v, _, _ => v = .int .i64 (l1.length : Nat)
  | 47, v, _, _ => v = .bool false
  | 48, v, _, _ => v = .bool false
  | 49, v, _, _ => v = .bool false
  | _, _, _, _ => True
def hgFD : Nat → List Nat
  | 2 => [0, 1]
  | 3 => [2]
  | 4 => [3]
  | 7 => [5, 6]
  | 8 => [7]
  | 9 => [4, 8]
  | 10 => [9]
  | 11 => [10]
  | 12 => [10]
  | 13 => [11, 12, 10]
  | 14 => [13, 10]
  | 15 => [14, 10]
  | 16 => [15, 10]
  | 17 => [16, 10]
  | 18 => [17]
  | 19 => [18, 17]
  | 20 => [17, 19, 10]
  | 21 => [10, 20]
  | 22 => [21]
  | 23 => [22]
  | 24 => [22]
  | 25 => [23, 24, 22]
  | 26 => [22]
  | 27 => [22]
  | 28 => [26, 27, 22]
  | 29 => [28, 22]
  | 30 => [29, 22]
  | 31 => [22]
  | 32 => [30, 31, 22]
  | 33 => [22]
  | 34 => [32, 33, 22]
  | 35 => [25, 34, 22]
  | 36 => [22, 35]
  | 37 => [36]
  | 38 => [37]
  | 39 => [38, 37]
  | 40 => [39, 37]
  | 41 => [40]
  | 42 => [40]
  | 43 => [41, 42, 40]
  | 44 => [43, 40]
  | 45 => [44, 40]
  | 46 => [45, 40]
  | 47 => [46, 40]
  | 48 => [40, 47, 37]
  | 49 => [37, 48]
  | _ => []
def hgFN (i : Nat) : Bool := !([18, 19] : List Nat).contains i
theorem hgF_st (N : Nat) (gb go' m cg rb ro cr k : Nat) (g x : Int) (B9 : Nat) (a31 : Option Addr) (c31 : Nat) (l1 : List Int) (ra : Option Addr) (rc : Nat) (hin1 : Bool) {i : Nat} {v : Value} {us : List Value} {w w' : World}  (hr : True) (hv : hgFV N gb go' m cg rb ro cr k g x B9 a31 c31 l1 ra rc hin1 i v us w) : hgFV N gb go' m cg rb ro cr k g x B9 a31 c31 l1 ra rc hin1 i v us w' := by
  unfold hgFV at hv ⊢
  split at hv
  all_goals first
    | exact hv
set_option linter.unusedSimpArgs false in
set_option maxRecDepth 100000 in
set_option maxHeartbeats 16000000 in
theorem walk (w : World) (a : Option Addr) (c : Nat) (ss : List Sk) (hin : HIn w a ss c) (x : Int) (hx : 0 ≤ x ∧ x ≤ 4294967295) :
    Calls Try.prog 9 #[.agg #[.slice a (List.length ss) c], .int .u32 x] w fun e w' => e = .returned (.bool true) ∧ Below w.heap.size w w' := by
  obtain ⟨n, hn⟩ : ∃ n, ss.length = n := ⟨_, rfl⟩
  obtain ⟨hS, hn0, hsl, hni, hnc⟩ := hin
  rw [hn] at hn0 hnc ⊢
  have HX := Lib.hid hn
  have HSL := Lib.hid hsl
  have hb1 := bel1 w (.cells #[.slice a n c] 36)
  have p := host_new w (.slice a n c)
  have C0 := Lib.hid p
  have BB := Lib.hid hb1
  have SS := Lib.hid (hS.below hb1)
  clear hn hS hsl hb1 p
  go_enter Try.func9, Try.ntmps9
  go_wp2_with fail
  generalize w.alloc (.cells #[.slice a n c] 36) = w1 at *
  have c0 := C0.out
  clear C0
  refine (hShown _).mono ?_
  rintro e w101 ⟨rfl, hb⟩
  have BB := Lib.hid (BB.out.trans (hb.mono BB.out.size))
  have SS := Lib.hid (SS.out.below hb)
  replace c0 := (hb.cell (cell_lt c0)).trans c0
  clear hb
  go_wp2_with fail
  refine (rFewH a n c ss _ HX.out hn0 HSL.out SS.out).mono ?_
  rintro e w102 ⟨rfl, hb⟩
  have BB := Lib.hid (BB.out.trans (hb.mono BB.out.size))
  have SS := Lib.hid (SS.out.below hb)
  replace c0 := (hb.cell (cell_lt c0)).trans c0
  clear hb
  by_cases q1 : ss.length + fl ss ≤ 600
  · rw [decide_eq_true q1]
    have HQ1 := Lib.hid q1
    clear q1
    go_wp2_with fail
    refine (rRightH a n c ss _ HX.out hn0 (fun s hs => by have h1 := fl_mem hs; have h2 := HQ1.out; omega) SS.out).mono ?_
    rintro e w103 ⟨rfl, hb⟩
    have BB := Lib.hid (BB.out.trans (hb.mono BB.out.size))
    have SS := Lib.hid (SS.out.below hb)
    replace c0 := (hb.cell (cell_lt c0)).trans c0
    clear hb
    by_cases q2 : okH ss
    · rw [decide_eq_true q2]
      have HOK := Lib.hid q2
      have HFW := Lib.hid (okH_few q2)
      clear q2
      go_wp2_with fail
      refine (hGroups a n c ss _ HX.out HFW.out SS.out).mono ?_
      rintro e w104 ⟨⟨a5, c5, rfl, hA5, hf5⟩, hb⟩
      have BB := Lib.hid (BB.out.trans (hb.mono BB.out.size))
      have SS := Lib.hid (SS.out.below hb)
      replace c0 := (hb.cell (cell_lt c0)).trans c0
      clear hb
      have GA := Lib.hid hA5
      clear hA5 hf5
      obtain ⟨gs, hgs⟩ : ∃ gs, mk (grp ss) = gs := ⟨_, rfl⟩
      have HGL : Hid (gs.length ≤ 400) := Lib.hid (by rw [← hgs]; have h1 := grp_len ss; have h2 := HFW.out.1; omega)
      have HGI : Hid (Inc gs) := Lib.hid (by rw [← hgs]; exact mk_inc _)
      have HGM : Hid (∀ g ∈ gs, g ∈ grp ss) := Lib.hid (by rw [← hgs]; exact fun g hg => (mk_mem g _).1 hg)
      rw [hgs] at GA ⊢
      obtain ⟨m, hm⟩ : ∃ m, gs.length = m := ⟨_, rfl⟩
      rw [hm] at HGL ⊢
      have HM := Lib.hid hm
      have HGS := Lib.hid hgs
      have hml := HGL.out
      clear hgs hm
      go_wp2_with fail
      refine (hAnswer a n c ss 17 2 9 0 0 0 false none 0 0 [] (.slice none 0 0) _ HX.out HFW.out SS.out rfl (by omega) (As.nil _ _) (by omega)).mono ?_
      rintro e w105 ⟨⟨b6, d6, rs, rfl, m6, k6, n6⟩, hb⟩
      have BB := Lib.hid (BB.out.trans (hb.mono BB.out.size))
      have SS := Lib.hid (SS.out.below hb)
      have GA := Lib.hid (GA.out.below hb)
      replace c0 := (hb.cell (cell_lt c0)).trans c0
      clear hb
      have hans : answer ss 17 0 [] = gs.map (one ss) := by unfold answer; rw [if_pos rfl, if_pos rfl, HGS.out]; exact tell_map HOK.out gs HGM.out
      rw [hans] at m6
      have M6 := Lib.hid m6
      have K6 := Lib.hid k6
      have hrl : rs.length = m := by have := congrArg List.length m6; simp at this; rw [this, HM.out]
      rw [hrl]
      have HRL := Lib.hid hrl
      have hmm : ((m : Int) != (m : Int)) = false := by simp
      clear m6 k6 n6 hans hrl
      go_wp2_with fail
      refine (rRight a5 m c5 gs _ HM.out (by omega) GA.out).mono ?_
      rintro e w106 ⟨rfl, hb⟩
      have BB := Lib.hid (BB.out.trans (hb.mono BB.out.size))
      have SS := Lib.hid (SS.out.below hb)
      have GA := Lib.hid (GA.out.below hb)
      have K6 := Lib.hid (K6.out.below hb)
      replace c0 := (hb.cell (cell_lt c0)).trans c0
      clear hb
      rw [decide_eq_true HGI.out]
      go_wp2_with fail
      go_loopw [8] (fun v8 wr => ∃ k : Nat, v8 = .int .i64 (k : Int) ∧ k ≤ m ∧ Below w106.heap.size w106 wr) (fun v _ => m - (intOf v).toNat)
      case atStart => exact ⟨0, rfl, by omega, Below.refl _ _⟩
      case round =>
        obtain ⟨k, rfl, hk, hbw⟩ := hrel
        have BWR := Lib.hid hbw
        clear hbw
        by_cases hlt : k < m
        · obtain ⟨gb, go', rfl, hgc⟩ := GA.out.at (k := k) (by rw [HM.out]; exact hlt)
          obtain ⟨rb, ro, rfl, hrc⟩ := K6.out.at (k := k) (by rw [HRL.out]; exact hlt)
          have gc := (BWR.out.cell (cell_lt (hgc k (by rw [HM.out]; exact hlt)))).trans (hgc k (by rw [HM.out]; exact hlt))
          obtain ⟨⟨ty, rg, rsr, ra, rc⟩, hrk⟩ : ∃ r, rs[k]? = some r := ⟨_, List.getElem?_eq_getElem (by rw [HRL.out]; exact hlt)⟩
          obtain ⟨⟨rt, rgc, rsc⟩, hro, -⟩ := (hrc k _ hrk).below BWR.out
          have hgk : gs[k]? = some (gs.getD k 0) := by rw [List.getD_eq_getElem?_getD, List.getElem?_eq_getElem (by rw [HM.out]; exact hlt)]; rfl
          have hnm : (⟨ty, rg, rsr, ra, rc⟩ : Rc).nm = one ss (gs.getD k 0) := by
            have := congrArg (fun l : List Rc => l[k]?) M6.out
            simp only [List.getElem?_map, hrk, hgk, Option.map_some, Option.some.injEq] at this
            exact this
          have hgm := HGM.out _ (List.mem_of_getElem? hgk)
          obtain ⟨g, hg⟩ : ∃ g, gs.getD k 0 = g := ⟨_, rfl⟩
          rw [hg] at gc hnm hgm
          have hsm := grp_some HOK.out hgm
          have hinc := wants_inc HOK.out g
          have hll := flt_len (ofG_few (g := g) HFW.out)
          obtain ⟨⟨e1, l1⟩, hw1⟩ : ∃ p, wants g ss = p := ⟨_, rfl⟩
          rw [show flt (ofG g ss) = (e1, l1) from hw1] at hll
          unfold one at hnm
          rw [hw1] at hnm hsm hinc
          have q1 : ty = if e1 then 2 else 1 := congrArg (fun z => z.ty) hnm
          have q2 : rg = g := congrArg (fun z => z.g) hnm
          have q3 : rsr = l1 := congrArg (fun z => z.srcs) hnm
          subst q2 q3
          simp only [Rc.sl] at rt rgc rsc hro
          have HLL : Hid (rsr.length ≤ 160000) := Lib.hid hll
          have HW1 := Lib.hid hw1
          have HSM := Lib.hid hsm
          have HRA := Lib.hid hro
          have GC := Lib.hid gc
          have RT := Lib.hid rt
          have RG := Lib.hid rgc
          have RS := Lib.hid rsc
          have CC := Lib.hid ((BWR.out.cell (cell_lt c0)).trans c0)
          have HKM : Hid (k < m) := Lib.hid hlt
          have HTY := Lib.hid q1
          have hkz : (k : Int) < (m : Int) := by omega
          obtain ⟨hin1, hhin⟩ : ∃ h, decide (x ∈ rsr) = h := ⟨_, rfl⟩
          have HIN1 := Lib.hid hhin
          clear hgc hrc gc hrk rt rgc rsc hro hgk hnm hgm hg hsm hinc hll hw1 q1 hhin
          go_wp2_with fail
          refine wp_region_each3 (hgV w.heap.size wr.heap.size a n c gb go' m c5 k rg e1 rsr) (fun W => Below wr.heap.size wr W) (fR wr.heap.size 7) hgD [42, 43, 44, 45, 46, 47, 9] (by kernel_rfl) (by kernel_rfl) (by kernel_rfl) (Below.refl _ wr).drew
            (fun i j oi oj v us A B hoi hoj hij hw hSA hr hv => hg_st _ _ _ _ _ _ _ _ _ _ _ _ _ hij hr hv) ?hgd
            ⟨?_, ?_, ?_, ?_, ?_, ?_, ?_, ?_, trivial⟩ ?hend
          case hgd =>
            intro i o g b hoi hog v us w hv
            have hi : i < 8 := (Array.getElem?_eq_some_iff.1 hoi).1
            have hc : i = 0 ∨ i = 1 ∨ i = 2 ∨ i = 3 ∨ i = 4 ∨ i = 5 ∨ i = 6 ∨ i = 7 := by omega
            rcases hc with rfl | rfl | rfl | rfl | rfl | rfl | rfl | rfl
            · cases hoi; cases hog
            · cases hoi; cases hog
            · cases hoi; cases hog
            · cases hoi; cases hog
            · cases hoi; cases hog
            · cases hoi; cases hog
            · cases hoi; cases hog
            · cases hoi; cases hog
          case refine_1 =>
            intro a' w9 hS h0 hd
            have e2 : a'.tmps[2]?.getD undef = .pointer (some ⟨w.heap.size, 0, none⟩) := evG (h0 2 (by kernel_rfl))
            have c0 := (hS.cell (cell_lt CC.out)).trans CC.out
            refine Does2.value (.agg #[.slice a n c]) (w' := w9) ?_ ⟨rfl, hS, fR_refl _ _⟩
            clear hS h0 hd
            go_simp
          case refine_2 =>
            intro a' w9 hS h0 hd
            have e6 : a'.tmps[6]?.getD undef = .slice (some ⟨gb, go', none⟩) m c5 := evG (h0 6 (by kernel_rfl))
            refine Does2.value (.slice (some ⟨gb, go', none⟩) m c5) (w' := w9) ?_ ⟨rfl, hS, fR_refl _ _⟩
            clear hS h0 hd
            go_simp
          case refine_3 =>
            intro a' w9 hS h0 hd
            have e8 : a'.tmps[8]?.getD undef = .int .i64 (k : Nat) := evG (h0 8 (by kernel_rfl))
            refine Does2.value (.int .i64 (k : Nat)) (w' := w9) ?_ ⟨rfl, hS, fR_refl _ _⟩
            clear hS h0 hd
            go_simp
          case refine_4 =>
            intro a' w9 hS h0 hd
            have e43 : a'.tmps[43]?.getD undef = .slice (some ⟨gb, go', none⟩) m c5 := evG (hd 1 List.mem_cons_self)
            have e44 : a'.tmps[44]?.getD undef = .int .i64 (k : Nat) := evG (hd 2 (List.mem_cons_of_mem _ List.mem_cons_self))
            have hk0 := HKM.out
            refine Does2.value (.pointer (some ⟨gb, go' + k, none⟩)) (w' := w9) ?_ ⟨rfl, hS, fR_refl _ _⟩
            clear hS h0 hd
            go_simp
          case refine_5 =>
            intro a' w9 hS h0 hd
            have e45 : a'.tmps[45]?.getD undef = .pointer (some ⟨gb, go' + k, none⟩) := evG (hd 3 List.mem_cons_self)
            have c0 := (hS.cell (cell_lt GC.out)).trans GC.out
            refine Does2.value (.int .u32 rg) (w' := w9) ?_ ⟨rfl, hS, fR_refl _ _⟩
            clear hS h0 hd
            go_simp
          case refine_6 =>
            intro a' w9 hS h0 hd
            have e42 : a'.tmps[42]?.getD undef = .agg #[.slice a n c] := evG (hd 0 List.mem_cons_self)
            have e46 : a'.tmps[46]?.getD undef = .int .u32 rg := evG (hd 4 (List.mem_cons_of_mem _ List.mem_cons_self))
            refine Does2.call 32 #[.agg #[.slice a n c], .int .u32 rg] (w' := w9) ?_ ((hWants a n c ss rg w9 HX.out HFW.out (SS.out.below (BWR.out.trans (hS.mono BWR.out.size)))).mono ?_)
            · clear hS h0 hd
              go_simp
            · rw [HW1.out]
              rintro e w8 ⟨⟨a8, c8, rfl, hA8, hf8⟩, hb⟩
              exact ⟨_, rfl, ⟨a8, c8, rfl, hA8⟩, hS.trans (hb.mono hS.size), fR_below hb⟩
          case refine_7 =>
            intro a' w9 hS h0 hd
            refine Does2.value (.pointer (some ⟨w9.heap.size, 0, none⟩)) (w' := w9.alloc (.cells #[.bool false, .slice none 0 0] 25)) ?_ ⟨⟨_, rfl, hS.size, ⟨_, _, _, _, Go.Deep.blk_alloc_new _ _⟩⟩, hS.alloc hS.size _, fR_below (bel1 w9 _)⟩
            clear hS h0 hd
            go_simp
          case refine_8 =>
            intro a' w9 hS h0 hd
            obtain ⟨B9, e9, b9, x9⟩ := hd 6 List.mem_cons_self
            replace e9 := evG e9
            obtain ⟨a31, c31, e47, h31⟩ := hd 5 (List.mem_cons_of_mem _ List.mem_cons_self)
            replace e47 := evG e47
            obtain ⟨b', x, y, z, hbx⟩ := x9
            obtain ⟨hc0, hc1, hf0, hf1⟩ := FBx.cells hbx
            refine Does2.skip (w' := (w9.setCell ⟨B9, 0, none⟩ (.bool e1)).setCell ⟨B9, 1, none⟩ (.slice a31 rsr.length c31)) ?_ ⟨⟨B9, a31, c31, ?_, b9, FBx.set hbx _ _⟩, (hS.setCell (p := ⟨B9, 0, none⟩) b9 _).setCell (p := ⟨B9, 1, none⟩) b9 _, fR_set hbx ⟨b', x, y, z, hbx⟩ _ _ _ _⟩
            · clear hS h0 hd h31 hbx
              go_simp
            · have q5 : a'.eval (.tmp 9) = .pointer (some ⟨B9, 0, none⟩) := by simp [Act.eval, e9]
              have q6 : a'.eval (.tmp 47) = .agg #[.bool e1, .slice a31 rsr.length c31] := by simp [Act.eval, e47]
              show [a'.eval (.tmp 9), a'.eval (.tmp 47)] = _
              rw [q5, q6]
          case hend =>
            intro f w3 hS hv
            obtain ⟨B9, v9, b9, x9⟩ := hv 6 (by decide)
            replace v9 : f 9 = .pointer (some ⟨B9, 0, none⟩) := v9
            obtain ⟨a30, c30, v47, h31⟩ := hv 5 (by decide)
            replace v47 : f 47 = .agg #[.bool e1, .slice a30 rsr.length c30] := v47
            obtain ⟨B8, a31, c31, u7, hB8, h7⟩ := hv 7 (by decide)
            replace u7 : [f 9, f 47] = [.pointer (some ⟨B8, 0, none⟩), .agg #[.bool e1, .slice a31 rsr.length c31]] := u7
            rw [v9, v47] at u7
            simp only [List.cons.injEq, Value.pointer.injEq, Option.some.injEq, Addr.mk.injEq, Value.agg.injEq, Array.mk.injEq, Value.slice.injEq, and_true, true_and] at u7
            obtain ⟨rfl, rfl, rfl⟩ := u7
            simp only [putAll, Act.put, List.setIfInBounds_toArray, List.set_cons_zero, List.set_cons_succ, v9]
            have HA31 := Lib.hid h31
            obtain ⟨f0, f1, -, -⟩ := FBx.cells h7
            have F0 := Lib.hid f0
            have F1 := Lib.hid f1
            have BWR3 := Lib.hid (BWR.out.trans (hS.mono BWR.out.size))
            have HRA := Lib.hid (HRA.out.below hS)
            have GC2 := Lib.hid ((hS.cell (cell_lt GC.out)).trans GC.out)
            have RT := Lib.hid ((hS.cell (cell_lt RT.out)).trans RT.out)
            have RG := Lib.hid ((hS.cell (cell_lt RG.out)).trans RG.out)
            have RS := Lib.hid ((hS.cell (cell_lt RS.out)).trans RS.out)
            have rt := RT.out
            clear hS hv v9 v47 x9 h31 h7 hB8 b9 GC CC
            cases e1
            · have ht1 : ty = 1 := HTY.out
              subst ht1
              have HL0 : Hid (((rsr.length : Int) == 0) = false) := Lib.hid (beq_eq_false_iff_ne.2 (by
                rcases HSM.out with h | h
                · cases h
                · have h' : 0 < rsr.length := h
                  omega))
              go_wp2_with fail
              refine wp_region_each4 (hgFV w.heap.size gb go' m c5 rb ro d6 k rg x B9 a30 c30 rsr ra rc hin1) (fun W => Below w3.heap.size w3 W) (fun _ A B => Below A.heap.size A B) hgFD hgFN [54, 55, 56, 57, 58, 59, 60, 61, 62, 63, 64, 65, 66, 67, 68, 69, 70, 71, 72, 73, 74, 75, 76, 77, 78, 79, 80, 81, 82, 83, 84, 85, 86, 87, 88, 89, 90, 91, 92, 93, 94, 95, 96, 97, 98, 99, 100, 101, 102, 103] (by kernel_rfl) (by kernel_rfl) (by kernel_rfl) (Below.refl _ w3).drew
                (fun i j oi oj v us A B hoi hoj hij hw hSA hr hv => hgF_st _ _ _ _ _ _ _ _ _ _ _ _ _ _ _ _ _ _ trivial hv) ?hgd ?hng ?hsk
                ⟨?_, ?_, ?_, ?_, ?_, ?_, ?_, ?_, ?_, ?_, ?_, ?_, ?_, ?_, ?_, ?_, ?_, ?_, ?_, ?_, ?_, ?_, ?_, ?_, ?_, ?_, ?_, ?_, ?_, ?_, ?_, ?_, ?_, ?_, ?_, ?_, ?_, ?_, ?_, ?_, ?_, ?_, ?_, ?_, ?_, ?_, ?_, ?_, ?_, ?_, trivial⟩ ?hend
              case hgd =>
                intro i o g b hoi hog v us w hv
                have hi : i < 50 := (Array.getElem?_eq_some_iff.1 hoi).1
                have hc : i = 0 ∨ i = 1 ∨ i = 2 ∨ i = 3 ∨ i = 4 ∨ i = 5 ∨ i = 6 ∨ i = 7 ∨ i = 8 ∨ i = 9 ∨ i = 10 ∨ i = 11 ∨ i = 12 ∨ i = 13 ∨ i = 14 ∨ i = 15 ∨ i = 16 ∨ i = 17 ∨ i = 18 ∨ i = 19 ∨ i = 20 ∨ i = 21 ∨ i = 22 ∨ i = 23 ∨ i = 24 ∨ i = 25 ∨ i = 26 ∨ i = 27 ∨ i = 28 ∨ i = 29 ∨ i = 30 ∨ i = 31 ∨ i = 32 ∨ i = 33 ∨ i = 34 ∨ i = 35 ∨ i = 36 ∨ i = 37 ∨ i = 38 ∨ i = 39 ∨ i = 40 ∨ i = 41 ∨ i = 42 ∨ i = 43 ∨ i = 44 ∨ i = 45 ∨ i = 46 ∨ i = 47 ∨ i = 48 ∨ i = 49 := by omega
                rcases hc with rfl | rfl | rfl | rfl | rfl | rfl | rfl | rfl | rfl | rfl | rfl | rfl | rfl | rfl | rfl | rfl | rfl | rfl | rfl | rfl | rfl | rfl | rfl | rfl | rfl | rfl | rfl | rfl | rfl | rfl | rfl | rfl | rfl | rfl | rfl | rfl | rfl | rfl | rfl | rfl | rfl | rfl | rfl | rfl | rfl | rfl | rfl | rfl | rfl | rfl
                · cases hoi; cases hog
                · cases hoi; cases hog
                · cases hoi; cases hog
                · cases hoi; cases hog
                · cases hoi; cases hog
                · cases hoi; cases hog
                · cases hoi; cases hog
                · cases hoi; cases hog
                · cases hoi; cases hog
                · cases hoi; cases hog
                · cases hoi; cases hog
                · cases hoi; cases hog; exact hv
                · cases hoi; cases hog; exact hv
                · cases hoi; cases hog; exact hv
                · cases hoi; cases hog; exact hv
                · cases hoi; cases hog; exact hv
                · cases hoi; cases hog; exact hv
                · cases hoi; cases hog; exact hv
                · cases hoi; cases hog
                  show v ≠ _
                  rw [show v = _ from hv]
                  intro e; cases e
                · cases hoi; cases hog
                  show v ≠ _
                  rw [show v = _ from hv]
                  intro e; cases e
                · cases hoi; cases hog; exact hv
                · cases hoi; cases hog
                · cases hoi; cases hog
                · cases hoi; cases hog; exact hv
                · cases hoi; cases hog; exact hv
                · cases hoi; cases hog; exact hv
                · cases hoi; cases hog; exact hv
                · cases hoi; cases hog; exact hv
                · cases hoi; cases hog; exact hv
                · cases hoi; cases hog; exact hv
                · cases hoi; cases hog; exact hv
                · cases hoi; cases hog; exact hv
                · cases hoi; cases hog; exact hv
                · cases hoi; cases hog; exact hv
                · cases hoi; cases hog; exact hv
                · cases hoi; cases hog; exact hv
                · cases hoi; cases hog
                · cases hoi; cases hog
                · cases hoi; cases hog; exact hv
                · cases hoi; cases hog; exact hv
                · cases hoi; cases hog; exact hv
                · cases hoi; cases hog; exact hv
                · cases hoi; cases hog; exact hv
                · cases hoi; cases hog; exact hv
                · cases hoi; cases hog; exact hv
                · cases hoi; cases hog; exact hv
                · cases hoi; cases hog; exact hv
                · cases hoi; cases hog; exact hv
                · cases hoi; cases hog; exact hv
                · cases hoi; cases hog
              case hng =>
                intro i o hoi hr
                have hi : i < 50 := (Array.getElem?_eq_some_iff.1 hoi).1
                have hc : i = 0 ∨ i = 1 ∨ i = 2 ∨ i = 3 ∨ i = 4 ∨ i = 5 ∨ i = 6 ∨ i = 7 ∨ i = 8 ∨ i = 9 ∨ i = 10 ∨ i = 11 ∨ i = 12 ∨ i = 13 ∨ i = 14 ∨ i = 15 ∨ i = 16 ∨ i = 17 ∨ i = 18 ∨ i = 19 ∨ i = 20 ∨ i = 21 ∨ i = 22 ∨ i = 23 ∨ i = 24 ∨ i = 25 ∨ i = 26 ∨ i = 27 ∨ i = 28 ∨ i = 29 ∨ i = 30 ∨ i = 31 ∨ i = 32 ∨ i = 33 ∨ i = 34 ∨ i = 35 ∨ i = 36 ∨ i = 37 ∨ i = 38 ∨ i = 39 ∨ i = 40 ∨ i = 41 ∨ i = 42 ∨ i = 43 ∨ i = 44 ∨ i = 45 ∨ i = 46 ∨ i = 47 ∨ i = 48 ∨ i = 49 := by omega
                rcases hc with rfl | rfl | rfl | rfl | rfl | rfl | rfl | rfl | rfl | rfl | rfl | rfl | rfl | rfl | rfl | rfl | rfl | rfl | rfl | rfl | rfl | rfl | rfl | rfl | rfl | rfl | rfl | rfl | rfl | rfl | rfl | rfl | rfl | rfl | rfl | rfl | rfl | rfl | rfl | rfl | rfl | rfl | rfl | rfl | rfl | rfl | rfl | rfl | rfl | rfl
                · exact absurd hr (by decide)
                · exact absurd hr (by decide)
                · exact absurd hr (by decide)
                · exact absurd hr (by decide)
                · exact absurd hr (by decide)
                · exact absurd hr (by decide)
                · exact absurd hr (by decide)
                · exact absurd hr (by decide)
                · exact absurd hr (by decide)
                · exact absurd hr (by decide)
                · exact absurd hr (by decide)
                · exact absurd hr (by decide)
                · exact absurd hr (by decide)
                · exact absurd hr (by decide)
                · exact absurd hr (by decide)
                · exact absurd hr (by decide)
                · exact absurd hr (by decide)
                · exact absurd hr (by decide)
                · cases hoi; exact ⟨_, _, rfl⟩
                · cases hoi; exact ⟨_, _, rfl⟩
                · exact absurd hr (by decide)
                · exact absurd hr (by decide)
                · exact absurd hr (by decide)
                · exact absurd hr (by decide)
                · exact absurd hr (by decide)
                · exact absurd hr (by decide)
                · exact absurd hr (by decide)
                · exact absurd hr (by decide)
                · exact absurd hr (by decide)
                · exact absurd hr (by decide)
                · exact absurd hr (by decide)
                · exact absurd hr (by decide)
                · exact absurd hr (by decide)
                · exact absurd hr (by decide)
                · exact absurd hr (by decide)
                · exact absurd hr (by decide)
                · exact absurd hr (by decide)
                · exact absurd hr (by decide)
                · exact absurd hr (by decide)
                · exact absurd hr (by decide)
                · exact absurd hr (by decide)
                · exact absurd hr (by decide)
                · exact absurd hr (by decide)
                · exact absurd hr (by decide)
                · exact absurd hr (by decide)
                · exact absurd hr (by decide)
                · exact absurd hr (by decide)
                · exact absurd hr (by decide)
                · exact absurd hr (by decide)
                · exact absurd hr (by decide)
              case hsk =>
                intro i us w hr hS
                by_cases hi : i < 50
                · have hc : i = 0 ∨ i = 1 ∨ i = 2 ∨ i = 3 ∨ i = 4 ∨ i = 5 ∨ i = 6 ∨ i = 7 ∨ i = 8 ∨ i = 9 ∨ i = 10 ∨ i = 11 ∨ i = 12 ∨ i = 13 ∨ i = 14 ∨ i = 15 ∨ i = 16 ∨ i = 17 ∨ i = 18 ∨ i = 19 ∨ i = 20 ∨ i = 21 ∨ i = 22 ∨ i = 23 ∨ i = 24 ∨ i = 25 ∨ i = 26 ∨ i = 27 ∨ i = 28 ∨ i = 29 ∨ i = 30 ∨ i = 31 ∨ i = 32 ∨ i = 33 ∨ i = 34 ∨ i = 35 ∨ i = 36 ∨ i = 37 ∨ i = 38 ∨ i = 39 ∨ i = 40 ∨ i = 41 ∨ i = 42 ∨ i = 43 ∨ i = 44 ∨ i = 45 ∨ i = 46 ∨ i = 47 ∨ i = 48 ∨ i = 49 := by omega
                  rcases hc with rfl | rfl | rfl | rfl | rfl | rfl | rfl | rfl | rfl | rfl | rfl | rfl | rfl | rfl | rfl | rfl | rfl | rfl | rfl | rfl | rfl | rfl | rfl | rfl | rfl | rfl | rfl | rfl | rfl | rfl | rfl | rfl | rfl | rfl | rfl | rfl | rfl | rfl | rfl | rfl | rfl | rfl | rfl | rfl | rfl | rfl | rfl | rfl | rfl | rfl
                  · exact absurd hr (by decide)
                  · exact absurd hr (by decide)
                  · exact absurd hr (by decide)
                  · exact absurd hr (by decide)
                  · exact absurd hr (by decide)
                  · exact absurd hr (by decide)
                  · exact absurd hr (by decide)
                  · exact absurd hr (by decide)
                  · exact absurd hr (by decide)
                  · exact absurd hr (by decide)
                  · exact absurd hr (by decide)
                  · exact absurd hr (by decide)
                  · exact absurd hr (by decide)
                  · exact absurd hr (by decide)
                  · exact absurd hr (by decide)
                  · exact absurd hr (by decide)
                  · exact absurd hr (by decide)
                  · exact absurd hr (by decide)
                  · exact rfl
                  · exact rfl
                  · exact absurd hr (by decide)
                  · exact absurd hr (by decide)
                  · exact absurd hr (by decide)
                  · exact absurd hr (by decide)
                  · exact absurd hr (by decide)
                  · exact absurd hr (by decide)
                  · exact absurd hr (by decide)
                  · exact absurd hr (by decide)
                  · exact absurd hr (by decide)
                  · exact absurd hr (by decide)
                  · exact absurd hr (by decide)
                  · exact absurd hr (by decide)
                  · exact absurd hr (by decide)
                  · exact absurd hr (by decide)
                  · exact absurd hr (by decide)
                  · exact absurd hr (by decide)
                  · exact absurd hr (by decide)
                  · exact absurd hr (by decide)
                  · exact absurd hr (by decide)
                  · exact absurd hr (by decide)
                  · exact absurd hr (by decide)
                  · exact absurd hr (by decide)
                  · exact absurd hr (by decide)
                  · exact absurd hr (by decide)
                  · exact absurd hr (by decide)
                  · exact absurd hr (by decide)
                  · exact absurd hr (by decide)
                  · exact absurd hr (by decide)
                  · exact absurd hr (by decide)
                  · exact absurd hr (by decide)
                · exact absurd hr (by rw [show hgFN i = true from by unfold hgFN; simp; omega]; decide)
              case refine_1 =>
                intro hrun a' w9 hS h0 hd
                have e7 : a'.tmps[7]?.getD undef = .slice (some ⟨rb, ro, none⟩) m d6 := evG (h0 7 (by kernel_rfl))
                refine Does2.value (.slice (some ⟨rb, ro, none⟩) m d6) (w' := w9) ?_ ⟨rfl, hS, Below.refl _ _⟩
                clear hS h0 hd hrun
                go_simp
              case refine_2 =>
                intro hrun a' w9 hS h0 hd
                have e8 : a'.tmps[8]?.getD undef = .int .i64 (k : Nat) := evG (h0 8 (by kernel_rfl))
                refine Does2.value (.int .i64 (k : Nat)) (w' := w9) ?_ ⟨rfl, hS, Below.refl _ _⟩
                clear hS h0 hd hrun
                go_simp
              case refine_3 =>
                intro hrun a' w9 hS h0 hd
                have e54 : a'.tmps[54]?.getD undef = .slice (some ⟨rb, ro, none⟩) m d6 := evG (hd 0 List.mem_cons_self)
                have e55 : a'.tmps[55]?.getD undef = .int .i64 (k : Nat) := evG (hd 1 (List.mem_cons_of_mem _ List.mem_cons_self))
                have hk0 := HKM.out
                refine Does2.value (.pointer (some ⟨rb, ro + k * 3, none⟩)) (w' := w9) ?_ ⟨rfl, hS, Below.refl _ _⟩
                clear hS h0 hd hrun
                go_simp
              case refine_4 =>
                intro hrun a' w9 hS h0 hd
                have e56 : a'.tmps[56]?.getD undef = .pointer (some ⟨rb, ro + k * 3, none⟩) := evG (hd 2 List.mem_cons_self)
                refine Does2.value (.pointer (some ⟨rb, ro + k * 3 + 1, none⟩)) (w' := w9) ?_ ⟨rfl, hS, Below.refl _ _⟩
                clear hS h0 hd hrun
                go_simp
              case refine_5 =>
                intro hrun a' w9 hS h0 hd
                have e57 : a'.tmps[57]?.getD undef = .pointer (some ⟨rb, ro + k * 3 + 1, none⟩) := evG (hd 3 List.mem_cons_self)
                have c0 := (hS.cell (cell_lt RG.out)).trans RG.out
                refine Does2.value (.int .u32 rg) (w' := w9) ?_ ⟨rfl, hS, Below.refl _ _⟩
                clear hS h0 hd hrun
                go_simp
              case refine_6 =>
                intro hrun a' w9 hS h0 hd
                have e6 : a'.tmps[6]?.getD undef = .slice (some ⟨gb, go', none⟩) m c5 := evG (h0 6 (by kernel_rfl))
                refine Does2.value (.slice (some ⟨gb, go', none⟩) m c5) (w' := w9) ?_ ⟨rfl, hS, Below.refl _ _⟩
                clear hS h0 hd hrun
                go_simp
              case refine_7 =>
                intro hrun a' w9 hS h0 hd
                have e8 : a'.tmps[8]?.getD undef = .int .i64 (k : Nat) := evG (h0 8 (by kernel_rfl))
                refine Does2.value (.int .i64 (k : Nat)) (w' := w9) ?_ ⟨rfl, hS, Below.refl _ _⟩
                clear hS h0 hd hrun
                go_simp
              case refine_8 =>
                intro hrun a' w9 hS h0 hd
                have e59 : a'.tmps[59]?.getD undef = .slice (some ⟨gb, go', none⟩) m c5 := evG (hd 5 List.mem_cons_self)
                have e60 : a'.tmps[60]?.getD undef = .int .i64 (k : Nat) := evG (hd 6 (List.mem_cons_of_mem _ List.mem_cons_self))
                have hk0 := HKM.out
                refine Does2.value (.pointer (some ⟨gb, go' + k, none⟩)) (w' := w9) ?_ ⟨rfl, hS, Below.refl _ _⟩
                clear hS h0 hd hrun
                go_simp
              case refine_9 =>
                intro hrun a' w9 hS h0 hd
                have e61 : a'.tmps[61]?.getD undef = .pointer (some ⟨gb, go' + k, none⟩) := evG (hd 7 List.mem_cons_self)
                have c0 := (hS.cell (cell_lt GC2.out)).trans GC2.out
                refine Does2.value (.int .u32 rg) (w' := w9) ?_ ⟨rfl, hS, Below.refl _ _⟩
                clear hS h0 hd hrun
                go_simp
              case refine_10 =>
                intro hrun a' w9 hS h0 hd
                have e58 : a'.tmps[58]?.getD undef = .int .u32 rg := evG (hd 4 List.mem_cons_self)
                have e62 : a'.tmps[62]?.getD undef = .int .u32 rg := evG (hd 8 (List.mem_cons_of_mem _ List.mem_cons_self))
                refine Does2.value (.bool false) (w' := w9) ?_ ⟨rfl, hS, Below.refl _ _⟩
                clear hS h0 hd hrun
                go_simp
              case refine_11 =>
                intro hrun a' w9 hS h0 hd
                have e63 : a'.tmps[63]?.getD undef = .bool false := evG (hd 9 List.mem_cons_self)
                refine Does2.value (.bool false) (w' := w9) ?_ ⟨rfl, hS, Below.refl _ _⟩
                clear hS h0 hd hrun
                go_simp
              case refine_12 =>
                intro hrun a' w9 hS h0 hd
                have e7 : a'.tmps[7]?.getD undef = .slice (some ⟨rb, ro, none⟩) m d6 := evG (h0 7 (by kernel_rfl))
                refine Does2.value (.slice (some ⟨rb, ro, none⟩) m d6) (w' := w9) ?_ ⟨rfl, hS, Below.refl _ _⟩
                clear hS h0 hd hrun
                go_simp
              case refine_13 =>
                intro hrun a' w9 hS h0 hd
                have e8 : a'.tmps[8]?.getD undef = .int .i64 (k : Nat) := evG (h0 8 (by kernel_rfl))
                refine Does2.value (.int .i64 (k : Nat)) (w' := w9) ?_ ⟨rfl, hS, Below.refl _ _⟩
                clear hS h0 hd hrun
                go_simp
              case refine_14 =>
                intro hrun a' w9 hS h0 hd
                have e65 : a'.tmps[65]?.getD undef = .slice (some ⟨rb, ro, none⟩) m d6 := evG (hd 11 List.mem_cons_self)
                have e66 : a'.tmps[66]?.getD undef = .int .i64 (k : Nat) := evG (hd 12 (List.mem_cons_of_mem _ List.mem_cons_self))
                have hk0 := HKM.out
                refine Does2.value (.pointer (some ⟨rb, ro + k * 3, none⟩)) (w' := w9) ?_ ⟨rfl, hS, Below.refl _ _⟩
                clear hS h0 hd hrun
                go_simp
              case refine_15 =>
                intro hrun a' w9 hS h0 hd
                have e67 : a'.tmps[67]?.getD undef = .pointer (some ⟨rb, ro + k * 3, none⟩) := evG (hd 13 List.mem_cons_self)
                refine Does2.value (.pointer (some ⟨rb, ro + k * 3, none⟩)) (w' := w9) ?_ ⟨rfl, hS, Below.refl _ _⟩
                clear hS h0 hd hrun
                go_simp
              case refine_16 =>
                intro hrun a' w9 hS h0 hd
                have e68 : a'.tmps[68]?.getD undef = .pointer (some ⟨rb, ro + k * 3, none⟩) := evG (hd 14 List.mem_cons_self)
                have c0 := (hS.cell (cell_lt RT.out)).trans RT.out
                refine Does2.value (.int .u8 1) (w' := w9) ?_ ⟨rfl, hS, Below.refl _ _⟩
                clear hS h0 hd hrun
                go_simp
              case refine_17 =>
                intro hrun a' w9 hS h0 hd
                have e69 : a'.tmps[69]?.getD undef = .int .u8 1 := evG (hd 15 List.mem_cons_self)
                refine Does2.value (.bool false) (w' := w9) ?_ ⟨rfl, hS, Below.refl _ _⟩
                clear hS h0 hd hrun
                go_simp
              case refine_18 =>
                intro hrun a' w9 hS h0 hd
                have e70 : a'.tmps[70]?.getD undef = .bool false := evG (hd 16 List.mem_cons_self)
                refine Does2.value (.bool false) (w' := w9) ?_ ⟨rfl, hS, Below.refl _ _⟩
                clear hS h0 hd hrun
                go_simp
              case refine_19 =>
                intro hrun a' w9 hS h0 hd
                exact absurd hrun (by decide)
              case refine_20 =>
                intro hrun a' w9 hS h0 hd
                exact absurd hrun (by decide)
              case refine_21 =>
                intro hrun a' w9 hS h0 hd
                have e71 : a'.tmps[71]?.getD undef = .bool false := evG (hd 17 List.mem_cons_self)
                have e73 : a'.tmps[73]?.getD undef = undef := evG (hd 19 (List.mem_cons_of_mem _ List.mem_cons_self))
                refine Does2.value (.bool false) (w' := w9) ?_ ⟨rfl, hS, Below.refl _ _⟩
                clear hS h0 hd hrun
                go_simp
              case refine_22 =>
                intro hrun a' w9 hS h0 hd
                have e64 : a'.tmps[64]?.getD undef = .bool false := evG (hd 10 List.mem_cons_self)
                have e74 : a'.tmps[74]?.getD undef = .bool false := evG (hd 20 (List.mem_cons_of_mem _ List.mem_cons_self))
                refine Does2.value (.bool false) (w' := w9) ?_ ⟨rfl, hS, Below.refl _ _⟩
                clear hS h0 hd hrun
                go_simp
              case refine_23 =>
                intro hrun a' w9 hS h0 hd
                have e75 : a'.tmps[75]?.getD undef = .bool false := evG (hd 21 List.mem_cons_self)
                refine Does2.value (.bool false) (w' := w9) ?_ ⟨rfl, hS, Below.refl _ _⟩
                clear hS h0 hd hrun
                go_simp
              case refine_24 =>
                intro hrun a' w9 hS h0 hd
                have e9 : a'.tmps[9]?.getD undef = .pointer (some ⟨B9, 0, none⟩) := evG (h0 9 (by kernel_rfl))
                have c0 := (hS.cell (cell_lt F0.out)).trans F0.out
                have c1 := (hS.cell (cell_lt F1.out)).trans F1.out
                refine Does2.value (.agg #[.bool false, .slice a30 rsr.length c30]) (w' := w9) ?_ ⟨rfl, hS, Below.refl _ _⟩
                clear hS h0 hd hrun
                go_simp
              case refine_25 =>
                intro hrun a' w9 hS h0 hd
                have e1 : a'.tmps[1]?.getD undef = .int .u32 x := evG (h0 1 (by kernel_rfl))
                refine Does2.value (.int .u32 x) (w' := w9) ?_ ⟨rfl, hS, Below.refl _ _⟩
                clear hS h0 hd hrun
                go_simp
              case refine_26 =>
                intro hrun a' w9 hS h0 hd
                have e77 : a'.tmps[77]?.getD undef = .agg #[.bool false, .slice a30 rsr.length c30] := evG (hd 23 List.mem_cons_self)
                have e78 : a'.tmps[78]?.getD undef = .int .u32 x := evG (hd 24 (List.mem_cons_of_mem _ List.mem_cons_self))
                refine Does2.call 38 #[.agg #[.bool false, .slice a30 rsr.length c30], .int .u32 x] (w' := w9) ?_ ((rWants false a30 _ c30 rsr x w9 rfl (by have := HLL.out; omega) (HA31.out.below hS)).mono ?_)
                · clear hS h0 hd
                  go_simp
                · rw [HIN1.out]
                  rintro e w8 ⟨rfl, hb⟩
                  exact ⟨_, rfl, rfl, hS.trans (hb.mono hS.size), hb⟩
              case refine_27 =>
                intro hrun a' w9 hS h0 hd
                have e7 : a'.tmps[7]?.getD undef = .slice (some ⟨rb, ro, none⟩) m d6 := evG (h0 7 (by kernel_rfl))
                refine Does2.value (.slice (some ⟨rb, ro, none⟩) m d6) (w' := w9) ?_ ⟨rfl, hS, Below.refl _ _⟩
                clear hS h0 hd hrun
                go_simp
              case refine_28 =>
                intro hrun a' w9 hS h0 hd
                have e8 : a'.tmps[8]?.getD undef = .int .i64 (k : Nat) := evG (h0 8 (by kernel_rfl))
                refine Does2.value (.int .i64 (k : Nat)) (w' := w9) ?_ ⟨rfl, hS, Below.refl _ _⟩
                clear hS h0 hd hrun
                go_simp
              case refine_29 =>
                intro hrun a' w9 hS h0 hd
                have e80 : a'.tmps[80]?.getD undef = .slice (some ⟨rb, ro, none⟩) m d6 := evG (hd 26 List.mem_cons_self)
                have e81 : a'.tmps[81]?.getD undef = .int .i64 (k : Nat) := evG (hd 27 (List.mem_cons_of_mem _ List.mem_cons_self))
                have hk0 := HKM.out
                refine Does2.value (.pointer (some ⟨rb, ro + k * 3, none⟩)) (w' := w9) ?_ ⟨rfl, hS, Below.refl _ _⟩
                clear hS h0 hd hrun
                go_simp
              case refine_30 =>
                intro hrun a' w9 hS h0 hd
                have e82 : a'.tmps[82]?.getD undef = .pointer (some ⟨rb, ro + k * 3, none⟩) := evG (hd 28 List.mem_cons_self)
                refine Does2.value (.pointer (some ⟨rb, ro + k * 3 + 2, none⟩)) (w' := w9) ?_ ⟨rfl, hS, Below.refl _ _⟩
                clear hS h0 hd hrun
                go_simp
              case refine_31 =>
                intro hrun a' w9 hS h0 hd
                have e83 : a'.tmps[83]?.getD undef = .pointer (some ⟨rb, ro + k * 3 + 2, none⟩) := evG (hd 29 List.mem_cons_self)
                have c0 := (hS.cell (cell_lt RS.out)).trans RS.out
                refine Does2.value (.slice ra rsr.length rc) (w' := w9) ?_ ⟨rfl, hS, Below.refl _ _⟩
                clear hS h0 hd hrun
                go_simp
              case refine_32 =>
                intro hrun a' w9 hS h0 hd
                have e1 : a'.tmps[1]?.getD undef = .int .u32 x := evG (h0 1 (by kernel_rfl))
                refine Does2.value (.int .u32 x) (w' := w9) ?_ ⟨rfl, hS, Below.refl _ _⟩
                clear hS h0 hd hrun
                go_simp
              case refine_33 =>
                intro hrun a' w9 hS h0 hd
                have e84 : a'.tmps[84]?.getD undef = .slice ra rsr.length rc := evG (hd 30 List.mem_cons_self)
                have e85 : a'.tmps[85]?.getD undef = .int .u32 x := evG (hd 31 (List.mem_cons_of_mem _ List.mem_cons_self))
                refine Does2.call 39 #[.slice ra rsr.length rc, .int .u32 x] (w' := w9) ?_ ((rHas ra _ rc rsr x w9 rfl (by have := HLL.out; omega) (HRA.out.below hS)).mono ?_)
                · clear hS h0 hd
                  go_simp
                · rw [HIN1.out]
                  rintro e w8 ⟨rfl, hw⟩
                  subst hw
                  exact ⟨_, rfl, rfl, hS, Below.refl _ _⟩
              case refine_34 =>
                intro hrun a' w9 hS h0 hd
                have e10 : a'.tmps[10]?.getD undef = .bool false := evG (h0 10 (by kernel_rfl))
                refine Does2.value (.bool false) (w' := w9) ?_ ⟨rfl, hS, Below.refl _ _⟩
                clear hS h0 hd hrun
                go_simp
              case refine_35 =>
                intro hrun a' w9 hS h0 hd
                have e86 : a'.tmps[86]?.getD undef = .bool hin1 := evG (hd 32 List.mem_cons_self)
                have e87 : a'.tmps[87]?.getD undef = .bool false := evG (hd 33 (List.mem_cons_of_mem _ List.mem_cons_self))
                refine Does2.value (.bool (hin1 != false)) (w' := w9) ?_ ⟨rfl, hS, Below.refl _ _⟩
                clear hS h0 hd hrun
                go_simp
              case refine_36 =>
                intro hrun a' w9 hS h0 hd
                have e79 : a'.tmps[79]?.getD undef = .bool (hin1 != false) := evG (hd 25 List.mem_cons_self)
                have e88 : a'.tmps[88]?.getD undef = .bool (hin1 != false) := evG (hd 34 (List.mem_cons_of_mem _ List.mem_cons_self))
                refine Does2.value (.bool false) (w' := w9) ?_ ⟨rfl, hS, Below.refl _ _⟩
                clear hS h0 hd hrun
                go_simp
              case refine_37 =>
                intro hrun a' w9 hS h0 hd
                have e76 : a'.tmps[76]?.getD undef = .bool false := evG (hd 22 List.mem_cons_self)
                have e89 : a'.tmps[89]?.getD undef = .bool false := evG (hd 35 (List.mem_cons_of_mem _ List.mem_cons_self))
                refine Does2.value (.bool false) (w' := w9) ?_ ⟨rfl, hS, Below.refl _ _⟩
                clear hS h0 hd hrun
                go_simp
              case refine_38 =>
                intro hrun a' w9 hS h0 hd
                have e90 : a'.tmps[90]?.getD undef = .bool false := evG (hd 36 List.mem_cons_self)
                refine Does2.value (.bool false) (w' := w9) ?_ ⟨rfl, hS, Below.refl _ _⟩
                clear hS h0 hd hrun
                go_simp
              case refine_39 =>
                intro hrun a' w9 hS h0 hd
                have e10 : a'.tmps[10]?.getD undef = .bool false := evG (h0 10 (by kernel_rfl))
                refine Does2.value (.bool false) (w' := w9) ?_ ⟨rfl, hS, Below.refl _ _⟩
                clear hS h0 hd hrun
                go_simp
              case refine_40 =>
                intro hrun a' w9 hS h0 hd
                have e92 : a'.tmps[92]?.getD undef = .bool false := evG (hd 38 List.mem_cons_self)
                refine Does2.value (.bool true) (w' := w9) ?_ ⟨rfl, hS, Below.refl _ _⟩
                clear hS h0 hd hrun
                go_simp
              case refine_41 =>
                intro hrun a' w9 hS h0 hd
                have e93 : a'.tmps[93]?.getD undef = .bool true := evG (hd 39 List.mem_cons_self)
                refine Does2.value (.bool true) (w' := w9) ?_ ⟨rfl, hS, Below.refl _ _⟩
                clear hS h0 hd hrun
                go_simp
              case refine_42 =>
                intro hrun a' w9 hS h0 hd
                have e7 : a'.tmps[7]?.getD undef = .slice (some ⟨rb, ro, none⟩) m d6 := evG (h0 7 (by kernel_rfl))
                refine Does2.value (.slice (some ⟨rb, ro, none⟩) m d6) (w' := w9) ?_ ⟨rfl, hS, Below.refl _ _⟩
                clear hS h0 hd hrun
                go_simp
              case refine_43 =>
                intro hrun a' w9 hS h0 hd
                have e8 : a'.tmps[8]?.getD undef = .int .i64 (k : Nat) := evG (h0 8 (by kernel_rfl))
                refine Does2.value (.int .i64 (k : Nat)) (w' := w9) ?_ ⟨rfl, hS, Below.refl _ _⟩
                clear hS h0 hd hrun
                go_simp
              case refine_44 =>
                intro hrun a' w9 hS h0 hd
                have e95 : a'.tmps[95]?.getD undef = .slice (some ⟨rb, ro, none⟩) m d6 := evG (hd 41 List.mem_cons_self)
                have e96 : a'.tmps[96]?.getD undef = .int .i64 (k : Nat) := evG (hd 42 (List.mem_cons_of_mem _ List.mem_cons_self))
                have hk0 := HKM.out
                refine Does2.value (.pointer (some ⟨rb, ro + k * 3, none⟩)) (w' := w9) ?_ ⟨rfl, hS, Below.refl _ _⟩
                clear hS h0 hd hrun
                go_simp
              case refine_45 =>
                intro hrun a' w9 hS h0 hd
                have e97 : a'.tmps[97]?.getD undef = .pointer (some ⟨rb, ro + k * 3, none⟩) := evG (hd 43 List.mem_cons_self)
                refine Does2.value (.pointer (some ⟨rb, ro + k * 3 + 2, none⟩)) (w' := w9) ?_ ⟨rfl, hS, Below.refl _ _⟩
                clear hS h0 hd hrun
                go_simp
              case refine_46 =>
                intro hrun a' w9 hS h0 hd
                have e98 : a'.tmps[98]?.getD undef = .pointer (some ⟨rb, ro + k * 3 + 2, none⟩) := evG (hd 44 List.mem_cons_self)
                have c0 := (hS.cell (cell_lt RS.out)).trans RS.out
                refine Does2.value (.slice ra rsr.length rc) (w' := w9) ?_ ⟨rfl, hS, Below.refl _ _⟩
                clear hS h0 hd hrun
                go_simp
              case refine_47 =>
                intro hrun a' w9 hS h0 hd
                have e99 : a'.tmps[99]?.getD undef = .slice ra rsr.length rc := evG (hd 45 List.mem_cons_self)
                refine Does2.value (.int .i64 (rsr.length : Nat)) (w' := w9) ?_ ⟨rfl, hS, Below.refl _ _⟩
                clear hS h0 hd hrun
                go_simp
              case refine_48 =>
                intro hrun a' w9 hS h0 hd
                have e100 : a'.tmps[100]?.getD undef = .int .i64 (rsr.length : Nat) := evG (hd 46 List.mem_cons_self)
                have hl0 := HL0.out
                refine Does2.value (.bool false) (w' := w9) ?_ ⟨rfl, hS, Below.refl _ _⟩
                clear hS h0 hd hrun
                go_simp
              case refine_49 =>
                intro hrun a' w9 hS h0 hd
                have e94 : a'.tmps[94]?.getD undef = .bool true := evG (hd 40 List.mem_cons_self)
                have e101 : a'.tmps[101]?.getD undef = .bool false := evG (hd 47 (List.mem_cons_of_mem _ List.mem_cons_self))
                refine Does2.value (.bool false) (w' := w9) ?_ ⟨rfl, hS, Below.refl _ _⟩
                clear hS h0 hd hrun
                go_simp
              case refine_50 =>
                intro hrun a' w9 hS h0 hd
                have e91 : a'.tmps[91]?.getD undef = .bool false := evG (hd 37 List.mem_cons_self)
                have e102 : a'.tmps[102]?.getD undef = .bool false := evG (hd 48 (List.mem_cons_of_mem _ List.mem_cons_self))
                refine Does2.value (.bool false) (w' := w9) ?_ ⟨rfl, hS, Below.refl _ _⟩
                clear hS h0 hd hrun
                go_simp
              case hend =>
                intro f3 w4 hS hv
                have v103 := hv 49 (by decide)
                replace v103 : f3 103 = .bool false := v103
                simp only [putAll, Act.put, List.setIfInBounds_toArray, List.set_cons_zero, List.set_cons_succ, v103]
                have HB9 := Lib.hid (BWR3.out.trans (hS.mono BWR3.out.size))
                clear hS hv v103
                go_wp2_with fail
                go_roundw
                case rel => exact ⟨k + 1, by go_num, by omega, HB9.out⟩
                case measure => simp [intOf]; omega
            · have ht1 : ty = 2 := HTY.out
              subst ht1
              go_wp2_with fail
              refine wp_region_each4 (hgTV w.heap.size gb go' m c5 rb ro d6 k rg x B9 a30 c30 rsr ra rc hin1) (fun W => Below w3.heap.size w3 W) (fun _ A B => Below A.heap.size A B) hgTD hgTN [54, 55, 56, 57, 58, 59, 60, 61, 62, 63, 64, 65, 66, 67, 68, 69, 70, 71, 72, 73, 74, 75, 76, 77, 78, 79, 80, 81, 82, 83, 84, 85, 86, 87, 88, 89, 90, 91, 92, 93, 94, 95, 96, 97, 98, 99, 100, 101, 102, 103] (by kernel_rfl) (by kernel_rfl) (by kernel_rfl) (Below.refl _ w3).drew
                (fun i j oi oj v us A B hoi hoj hij hw hSA hr hv => hgT_st _ _ _ _ _ _ _ _ _ _ _ _ _ _ _ _ _ _ trivial hv) ?hgd ?hng ?hsk
                ⟨?_, ?_, ?_, ?_, ?_, ?_, ?_, ?_, ?_, ?_, ?_, ?_, ?_, ?_, ?_, ?_, ?_, ?_, ?_, ?_, ?_, ?_, ?_, ?_, ?_, ?_, ?_, ?_, ?_, ?_, ?_, ?_, ?_, ?_, ?_, ?_, ?_, ?_, ?_, ?_, ?_, ?_, ?_, ?_, ?_, ?_, ?_, ?_, ?_, ?_, trivial⟩ ?hend
              case hgd =>
                intro i o g b hoi hog v us w hv
                have hi : i < 50 := (Array.getElem?_eq_some_iff.1 hoi).1
                have hc : i = 0 ∨ i = 1 ∨ i = 2 ∨ i = 3 ∨ i = 4 ∨ i = 5 ∨ i = 6 ∨ i = 7 ∨ i = 8 ∨ i = 9 ∨ i = 10 ∨ i = 11 ∨ i = 12 ∨ i = 13 ∨ i = 14 ∨ i = 15 ∨ i = 16 ∨ i = 17 ∨ i = 18 ∨ i = 19 ∨ i = 20 ∨ i = 21 ∨ i = 22 ∨ i = 23 ∨ i = 24 ∨ i = 25 ∨ i = 26 ∨ i = 27 ∨ i = 28 ∨ i = 29 ∨ i = 30 ∨ i = 31 ∨ i = 32 ∨ i = 33 ∨ i = 34 ∨ i = 35 ∨ i = 36 ∨ i = 37 ∨ i = 38 ∨ i = 39 ∨ i = 40 ∨ i = 41 ∨ i = 42 ∨ i = 43 ∨ i = 44 ∨ i = 45 ∨ i = 46 ∨ i = 47 ∨ i = 48 ∨ i = 49 := by omega
                rcases hc with rfl | rfl | rfl | rfl | rfl | rfl | rfl | rfl | rfl | rfl | rfl | rfl | rfl | rfl | rfl | rfl | rfl | rfl | rfl | rfl | rfl | rfl | rfl | rfl | rfl | rfl | rfl | rfl | rfl | rfl | rfl | rfl | rfl | rfl | rfl | rfl | rfl | rfl | rfl | rfl | rfl | rfl | rfl | rfl | rfl | rfl | rfl | rfl | rfl | rfl
                · cases hoi; cases hog
                · cases hoi; cases hog
                · cases hoi; cases hog
                · cases hoi; cases hog
                · cases hoi; cases hog
                · cases hoi; cases hog
                · cases hoi; cases hog
                · cases hoi; cases hog
                · cases hoi; cases hog
                · cases hoi; cases hog
                · cases hoi; cases hog
                · cases hoi; cases hog; exact hv
                · cases hoi; cases hog; exact hv
                · cases hoi; cases hog; exact hv
                · cases hoi; cases hog; exact hv
                · cases hoi; cases hog; exact hv
                · cases hoi; cases hog; exact hv
                · cases hoi; cases hog; exact hv
                · cases hoi; cases hog; exact hv
                · cases hoi; cases hog; exact hv
                · cases hoi; cases hog; exact hv
                · cases hoi; cases hog
                · cases hoi; cases hog
                · cases hoi; cases hog; exact hv
                · cases hoi; cases hog; exact hv
                · cases hoi; cases hog; exact hv
                · cases hoi; cases hog; exact hv
                · cases hoi; cases hog; exact hv
                · cases hoi; cases hog; exact hv
                · cases hoi; cases hog; exact hv
                · cases hoi; cases hog; exact hv
                · cases hoi; cases hog; exact hv
                · cases hoi; cases hog; exact hv
                · cases hoi; cases hog; exact hv
                · cases hoi; cases hog; exact hv
                · cases hoi; cases hog; exact hv
                · cases hoi; cases hog
                · cases hoi; cases hog
                · cases hoi; cases hog; exact hv
                · cases hoi; cases hog; exact hv
                · cases hoi; cases hog; exact hv
                · cases hoi; cases hog
                  show v ≠ _
                  rw [show v = _ from hv]
                  intro e; cases e
                · cases hoi; cases hog
                  show v ≠ _
                  rw [show v = _ from hv]
                  intro e; cases e
                · cases hoi; cases hog
                  show v ≠ _
                  rw [show v = _ from hv]
                  intro e; cases e
                · cases hoi; cases hog
                  show v ≠ _
                  rw [show v = _ from hv]
                  intro e; cases e
                · cases hoi; cases hog
                  show v ≠ _
                  rw [show v = _ from hv]
                  intro e; cases e
                · cases hoi; cases hog
                  show v ≠ _
                  rw [show v = _ from hv]
                  intro e; cases e
                · cases hoi; cases hog
                  show v ≠ _
                  rw [show v = _ from hv]
                  intro e; cases e
                · cases hoi; cases hog; exact hv
                · cases hoi; cases hog
              case hng =>
                intro i o hoi hr
                have hi : i < 50 := (Array.getElem?_eq_some_iff.1 hoi).1
                have hc : i = 0 ∨ i = 1 ∨ i = 2 ∨ i = 3 ∨ i = 4 ∨ i = 5 ∨ i = 6 ∨ i = 7 ∨ i = 8 ∨ i = 9 ∨ i = 10 ∨ i = 11 ∨ i = 12 ∨ i = 13 ∨ i = 14 ∨ i = 15 ∨ i = 16 ∨ i = 17 ∨ i = 18 ∨ i = 19 ∨ i = 20 ∨ i = 21 ∨ i = 22 ∨ i = 23 ∨ i = 24 ∨ i = 25 ∨ i = 26 ∨ i = 27 ∨ i = 28 ∨ i = 29 ∨ i = 30 ∨ i = 31 ∨ i = 32 ∨ i = 33 ∨ i = 34 ∨ i = 35 ∨ i = 36 ∨ i = 37 ∨ i = 38 ∨ i = 39 ∨ i = 40 ∨ i = 41 ∨ i = 42 ∨ i = 43 ∨ i = 44 ∨ i = 45 ∨ i = 46 ∨ i = 47 ∨ i = 48 ∨ i = 49 := by omega
                rcases hc with rfl | rfl | rfl | rfl | rfl | rfl | rfl | rfl | rfl | rfl | rfl | rfl | rfl | rfl | rfl | rfl | rfl | rfl | rfl | rfl | rfl | rfl | rfl | rfl | rfl | rfl | rfl | rfl | rfl | rfl | rfl | rfl | rfl | rfl | rfl | rfl | rfl | rfl | rfl | rfl | rfl | rfl | rfl | rfl | rfl | rfl | rfl | rfl | rfl | rfl
                · exact absurd hr (by decide)
                · exact absurd hr (by decide)
                · exact absurd hr (by decide)
                · exact absurd hr (by decide)
                · exact absurd hr (by decide)
                · exact absurd hr (by decide)
                · exact absurd hr (by decide)
                · exact absurd hr (by decide)
                · exact absurd hr (by decide)
                · exact absurd hr (by decide)
                · exact absurd hr (by decide)
                · exact absurd hr (by decide)
                · exact absurd hr (by decide)
                · exact absurd hr (by decide)
                · exact absurd hr (by decide)
                · exact absurd hr (by decide)
                · exact absurd hr (by decide)
                · exact absurd hr (by decide)
                · exact absurd hr (by decide)
                · exact absurd hr (by decide)
                · exact absurd hr (by decide)
                · exact absurd hr (by decide)
                · exact absurd hr (by decide)
                · exact absurd hr (by decide)
                · exact absurd hr (by decide)
                · exact absurd hr (by decide)
                · exact absurd hr (by decide)
                · exact absurd hr (by decide)
                · exact absurd hr (by decide)
                · exact absurd hr (by decide)
                · exact absurd hr (by decide)
                · exact absurd hr (by decide)
                · exact absurd hr (by decide)
                · exact absurd hr (by decide)
                · exact absurd hr (by decide)
                · exact absurd hr (by decide)
                · exact absurd hr (by decide)
                · exact absurd hr (by decide)
                · exact absurd hr (by decide)
                · exact absurd hr (by decide)
                · exact absurd hr (by decide)
                · cases hoi; exact ⟨_, _, rfl⟩
                · cases hoi; exact ⟨_, _, rfl⟩
                · cases hoi; exact ⟨_, _, rfl⟩
                · cases hoi; exact ⟨_, _, rfl⟩
                · cases hoi; exact ⟨_, _, rfl⟩
                · cases hoi; exact ⟨_, _, rfl⟩
                · cases hoi; exact ⟨_, _, rfl⟩
                · exact absurd hr (by decide)
                · exact absurd hr (by decide)
              case hsk =>
                intro i us w hr hS
                by_cases hi : i < 50
                · have hc : i = 0 ∨ i = 1 ∨ i = 2 ∨ i = 3 ∨ i = 4 ∨ i = 5 ∨ i = 6 ∨ i = 7 ∨ i = 8 ∨ i = 9 ∨ i = 10 ∨ i = 11 ∨ i = 12 ∨ i = 13 ∨ i = 14 ∨ i = 15 ∨ i = 16 ∨ i = 17 ∨ i = 18 ∨ i = 19 ∨ i = 20 ∨ i = 21 ∨ i = 22 ∨ i = 23 ∨ i = 24 ∨ i = 25 ∨ i = 26 ∨ i = 27 ∨ i = 28 ∨ i = 29 ∨ i = 30 ∨ i = 31 ∨ i = 32 ∨ i = 33 ∨ i = 34 ∨ i = 35 ∨ i = 36 ∨ i = 37 ∨ i = 38 ∨ i = 39 ∨ i = 40 ∨ i = 41 ∨ i = 42 ∨ i = 43 ∨ i = 44 ∨ i = 45 ∨ i = 46 ∨ i = 47 ∨ i = 48 ∨ i = 49 := by omega
                  rcases hc with rfl | rfl | rfl | rfl | rfl | rfl | rfl | rfl | rfl | rfl | rfl | rfl | rfl | rfl | rfl | rfl | rfl | rfl | rfl | rfl | rfl | rfl | rfl | rfl | rfl | rfl | rfl | rfl | rfl | rfl | rfl | rfl | rfl | rfl | rfl | rfl | rfl | rfl | rfl | rfl | rfl | rfl | rfl | rfl | rfl | rfl | rfl | rfl | rfl | rfl
                  · exact absurd hr (by decide)
                  · exact absurd hr (by decide)
                  · exact absurd hr (by decide)
                  · exact absurd hr (by decide)
                  · exact absurd hr (by decide)
                  · exact absurd hr (by decide)
                  · exact absurd hr (by decide)
                  · exact absurd hr (by decide)
                  · exact absurd hr (by decide)
                  · exact absurd hr (by decide)
                  · exact absurd hr (by decide)
                  · exact absurd hr (by decide)
                  · exact absurd hr (by decide)
                  · exact absurd hr (by decide)
                  · exact absurd hr (by decide)
                  · exact absurd hr (by decide)
                  · exact absurd hr (by decide)
                  · exact absurd hr (by decide)
                  · exact absurd hr (by decide)
                  · exact absurd hr (by decide)
                  · exact absurd hr (by decide)
                  · exact absurd hr (by decide)
                  · exact absurd hr (by decide)
                  · exact absurd hr (by decide)
                  · exact absurd hr (by decide)
                  · exact absurd hr (by decide)
                  · exact absurd hr (by decide)
                  · exact absurd hr (by decide)
                  · exact absurd hr (by decide)
                  · exact absurd hr (by decide)
                  · exact absurd hr (by decide)
                  · exact absurd hr (by decide)
                  · exact absurd hr (by decide)
                  · exact absurd hr (by decide)
                  · exact absurd hr (by decide)
                  · exact absurd hr (by decide)
                  · exact absurd hr (by decide)
                  · exact absurd hr (by decide)
                  · exact absurd hr (by decide)
                  · exact absurd hr (by decide)
                  · exact absurd hr (by decide)
                  · exact rfl
                  · exact rfl
                  · exact rfl
                  · exact rfl
                  · exact rfl
                  · exact rfl
                  · exact rfl
                  · exact absurd hr (by decide)
                  · exact absurd hr (by decide)
                · exact absurd hr (by rw [show hgTN i = true from by unfold hgTN; simp; omega]; decide)
              case refine_1 =>
                intro hrun a' w9 hS h0 hd
                have e7 : a'.tmps[7]?.getD undef = .slice (some ⟨rb, ro, none⟩) m d6 := evG (h0 7 (by kernel_rfl))
                refine Does2.value (.slice (some ⟨rb, ro, none⟩) m d6) (w' := w9) ?_ ⟨rfl, hS, Below.refl _ _⟩
                clear hS h0 hd hrun
                go_simp
              case refine_2 =>
                intro hrun a' w9 hS h0 hd
                have e8 : a'.tmps[8]?.getD undef = .int .i64 (k : Nat) := evG (h0 8 (by kernel_rfl))
                refine Does2.value (.int .i64 (k : Nat)) (w' := w9) ?_ ⟨rfl, hS, Below.refl _ _⟩
                clear hS h0 hd hrun
                go_simp
              case refine_3 =>
                intro hrun a' w9 hS h0 hd
                have e54 : a'.tmps[54]?.getD undef = .slice (some ⟨rb, ro, none⟩) m d6 := evG (hd 0 List.mem_cons_self)
                have e55 : a'.tmps[55]?.getD undef = .int .i64 (k : Nat) := evG (hd 1 (List.mem_cons_of_mem _ List.mem_cons_self))
                have hk0 := HKM.out
                refine Does2.value (.pointer (some ⟨rb, ro + k * 3, none⟩)) (w' := w9) ?_ ⟨rfl, hS, Below.refl _ _⟩
                clear hS h0 hd hrun
                go_simp
              case refine_4 =>
                intro hrun a' w9 hS h0 hd
                have e56 : a'.tmps[56]?.getD undef = .pointer (some ⟨rb, ro + k * 3, none⟩) := evG (hd 2 List.mem_cons_self)
                refine Does2.value (.pointer (some ⟨rb, ro + k * 3 + 1, none⟩)) (w' := w9) ?_ ⟨rfl, hS, Below.refl _ _⟩
                clear hS h0 hd hrun
                go_simp
              case refine_5 =>
                intro hrun a' w9 hS h0 hd
                have e57 : a'.tmps[57]?.getD undef = .pointer (some ⟨rb, ro + k * 3 + 1, none⟩) := evG (hd 3 List.mem_cons_self)
                have c0 := (hS.cell (cell_lt RG.out)).trans RG.out
                refine Does2.value (.int .u32 rg) (w' := w9) ?_ ⟨rfl, hS, Below.refl _ _⟩
                clear hS h0 hd hrun
                go_simp
              case refine_6 =>
                intro hrun a' w9 hS h0 hd
                have e6 : a'.tmps[6]?.getD undef = .slice (some ⟨gb, go', none⟩) m c5 := evG (h0 6 (by kernel_rfl))
                refine Does2.value (.slice (some ⟨gb, go', none⟩) m c5) (w' := w9) ?_ ⟨rfl, hS, Below.refl _ _⟩
                clear hS h0 hd hrun
                go_simp
              case refine_7 =>
                intro hrun a' w9 hS h0 hd
                have e8 : a'.tmps[8]?.getD undef = .int .i64 (k : Nat) := evG (h0 8 (by kernel_rfl))
                refine Does2.value (.int .i64 (k : Nat)) (w' := w9) ?_ ⟨rfl, hS, Below.refl _ _⟩
                clear hS h0 hd hrun
                go_simp
              case refine_8 =>
                intro hrun a' w9 hS h0 hd
                have e59 : a'.tmps[59]?.getD undef = .slice (some ⟨gb, go', none⟩) m c5 := evG (hd 5 List.mem_cons_self)
                have e60 : a'.tmps[60]?.getD undef = .int .i64 (k : Nat) := evG (hd 6 (List.mem_cons_of_mem _ List.mem_cons_self))
                have hk0 := HKM.out
                refine Does2.value (.pointer (some ⟨gb, go' + k, none⟩)) (w' := w9) ?_ ⟨rfl, hS, Below.refl _ _⟩
                clear hS h0 hd hrun
                go_simp
              case refine_9 =>
                intro hrun a' w9 hS h0 hd
                have e61 : a'.tmps[61]?.getD undef = .pointer (some ⟨gb, go' + k, none⟩) := evG (hd 7 List.mem_cons_self)
                have c0 := (hS.cell (cell_lt GC2.out)).trans GC2.out
                refine Does2.value (.int .u32 rg) (w' := w9) ?_ ⟨rfl, hS, Below.refl _ _⟩
                clear hS h0 hd hrun
                go_simp
              case refine_10 =>
                intro hrun a' w9 hS h0 hd
                have e58 : a'.tmps[58]?.getD undef = .int .u32 rg := evG (hd 4 List.mem_cons_self)
                have e62 : a'.tmps[62]?.getD undef = .int .u32 rg := evG (hd 8 (List.mem_cons_of_mem _ List.mem_cons_self))
                refine Does2.value (.bool false) (w' := w9) ?_ ⟨rfl, hS, Below.refl _ _⟩
                clear hS h0 hd hrun
                go_simp
              case refine_11 =>
                intro hrun a' w9 hS h0 hd
                have e63 : a'.tmps[63]?.getD undef = .bool false := evG (hd 9 List.mem_cons_self)
                refine Does2.value (.bool false) (w' := w9) ?_ ⟨rfl, hS, Below.refl _ _⟩
                clear hS h0 hd hrun
                go_simp
              case refine_12 =>
                intro hrun a' w9 hS h0 hd
                have e7 : a'.tmps[7]?.getD undef = .slice (some ⟨rb, ro, none⟩) m d6 := evG (h0 7 (by kernel_rfl))
                refine Does2.value (.slice (some ⟨rb, ro, none⟩) m d6) (w' := w9) ?_ ⟨rfl, hS, Below.refl _ _⟩
                clear hS h0 hd hrun
                go_simp
              case refine_13 =>
                intro hrun a' w9 hS h0 hd
                have e8 : a'.tmps[8]?.getD undef = .int .i64 (k : Nat) := evG (h0 8 (by kernel_rfl))
                refine Does2.value (.int .i64 (k : Nat)) (w' := w9) ?_ ⟨rfl, hS, Below.refl _ _⟩
                clear hS h0 hd hrun
                go_simp
              case refine_14 =>
                intro hrun a' w9 hS h0 hd
                have e65 : a'.tmps[65]?.getD undef = .slice (some ⟨rb, ro, none⟩) m d6 := evG (hd 11 List.mem_cons_self)
                have e66 : a'.tmps[66]?.getD undef = .int .i64 (k : Nat) := evG (hd 12 (List.mem_cons_of_mem _ List.mem_cons_self))
                have hk0 := HKM.out
                refine Does2.value (.pointer (some ⟨rb, ro + k * 3, none⟩)) (w' := w9) ?_ ⟨rfl, hS, Below.refl _ _⟩
                clear hS h0 hd hrun
                go_simp
              case refine_15 =>
                intro hrun a' w9 hS h0 hd
                have e67 : a'.tmps[67]?.getD undef = .pointer (some ⟨rb, ro + k * 3, none⟩) := evG (hd 13 List.mem_cons_self)
                refine Does2.value (.pointer (some ⟨rb, ro + k * 3, none⟩)) (w' := w9) ?_ ⟨rfl, hS, Below.refl _ _⟩
                clear hS h0 hd hrun
                go_simp
              case refine_16 =>
                intro hrun a' w9 hS h0 hd
                have e68 : a'.tmps[68]?.getD undef = .pointer (some ⟨rb, ro + k * 3, none⟩) := evG (hd 14 List.mem_cons_self)
                have c0 := (hS.cell (cell_lt RT.out)).trans RT.out
                refine Does2.value (.int .u8 2) (w' := w9) ?_ ⟨rfl, hS, Below.refl _ _⟩
                clear hS h0 hd hrun
                go_simp
              case refine_17 =>
                intro hrun a' w9 hS h0 hd
                have e69 : a'.tmps[69]?.getD undef = .int .u8 2 := evG (hd 15 List.mem_cons_self)
                refine Does2.value (.bool true) (w' := w9) ?_ ⟨rfl, hS, Below.refl _ _⟩
                clear hS h0 hd hrun
                go_simp
              case refine_18 =>
                intro hrun a' w9 hS h0 hd
                have e70 : a'.tmps[70]?.getD undef = .bool true := evG (hd 16 List.mem_cons_self)
                refine Does2.value (.bool true) (w' := w9) ?_ ⟨rfl, hS, Below.refl _ _⟩
                clear hS h0 hd hrun
                go_simp
              case refine_19 =>
                intro hrun a' w9 hS h0 hd
                have e10 : a'.tmps[10]?.getD undef = .bool true := evG (h0 10 (by kernel_rfl))
                refine Does2.value (.bool true) (w' := w9) ?_ ⟨rfl, hS, Below.refl _ _⟩
                clear hS h0 hd hrun
                go_simp
              case refine_20 =>
                intro hrun a' w9 hS h0 hd
                have e72 : a'.tmps[72]?.getD undef = .bool true := evG (hd 18 List.mem_cons_self)
                refine Does2.value (.bool false) (w' := w9) ?_ ⟨rfl, hS, Below.refl _ _⟩
                clear hS h0 hd hrun
                go_simp
              case refine_21 =>
                intro hrun a' w9 hS h0 hd
                have e71 : a'.tmps[71]?.getD undef = .bool true := evG (hd 17 List.mem_cons_self)
                have e73 : a'.tmps[73]?.getD undef = .bool false := evG (hd 19 (List.mem_cons_of_mem _ List.mem_cons_self))
                refine Does2.value (.bool false) (w' := w9) ?_ ⟨rfl, hS, Below.refl _ _⟩
                clear hS h0 hd hrun
                go_simp
              case refine_22 =>
                intro hrun a' w9 hS h0 hd
                have e64 : a'.tmps[64]?.getD undef = .bool false := evG (hd 10 List.mem_cons_self)
                have e74 : a'.tmps[74]?.getD undef = .bool false := evG (hd 20 (List.mem_cons_of_mem _ List.mem_cons_self))
                refine Does2.value (.bool false) (w' := w9) ?_ ⟨rfl, hS, Below.refl _ _⟩
                clear hS h0 hd hrun
                go_simp
              case refine_23 =>
                intro hrun a' w9 hS h0 hd
                have e75 : a'.tmps[75]?.getD undef = .bool false := evG (hd 21 List.mem_cons_self)
                refine Does2.value (.bool false) (w' := w9) ?_ ⟨rfl, hS, Below.refl _ _⟩
                clear hS h0 hd hrun
                go_simp
              case refine_24 =>
                intro hrun a' w9 hS h0 hd
                have e9 : a'.tmps[9]?.getD undef = .pointer (some ⟨B9, 0, none⟩) := evG (h0 9 (by kernel_rfl))
                have c0 := (hS.cell (cell_lt F0.out)).trans F0.out
                have c1 := (hS.cell (cell_lt F1.out)).trans F1.out
                refine Does2.value (.agg #[.bool true, .slice a30 rsr.length c30]) (w' := w9) ?_ ⟨rfl, hS, Below.refl _ _⟩
                clear hS h0 hd hrun
                go_simp
              case refine_25 =>
                intro hrun a' w9 hS h0 hd
                have e1 : a'.tmps[1]?.getD undef = .int .u32 x := evG (h0 1 (by kernel_rfl))
                refine Does2.value (.int .u32 x) (w' := w9) ?_ ⟨rfl, hS, Below.refl _ _⟩
                clear hS h0 hd hrun
                go_simp
              case refine_26 =>
                intro hrun a' w9 hS h0 hd
                have e77 : a'.tmps[77]?.getD undef = .agg #[.bool true, .slice a30 rsr.length c30] := evG (hd 23 List.mem_cons_self)
                have e78 : a'.tmps[78]?.getD undef = .int .u32 x := evG (hd 24 (List.mem_cons_of_mem _ List.mem_cons_self))
                refine Does2.call 38 #[.agg #[.bool true, .slice a30 rsr.length c30], .int .u32 x] (w' := w9) ?_ ((rWants true a30 _ c30 rsr x w9 rfl (by have := HLL.out; omega) (HA31.out.below hS)).mono ?_)
                · clear hS h0 hd
                  go_simp
                · rw [HIN1.out]
                  rintro e w8 ⟨rfl, hb⟩
                  exact ⟨_, rfl, rfl, hS.trans (hb.mono hS.size), hb⟩
              case refine_27 =>
                intro hrun a' w9 hS h0 hd
                have e7 : a'.tmps[7]?.getD undef = .slice (some ⟨rb, ro, none⟩) m d6 := evG (h0 7 (by kernel_rfl))
                refine Does2.value (.slice (some ⟨rb, ro, none⟩) m d6) (w' := w9) ?_ ⟨rfl, hS, Below.refl _ _⟩
                clear hS h0 hd hrun
                go_simp
              case refine_28 =>
                intro hrun a' w9 hS h0 hd
                have e8 : a'.tmps[8]?.getD undef = .int .i64 (k : Nat) := evG (h0 8 (by kernel_rfl))
                refine Does2.value (.int .i64 (k : Nat)) (w' := w9) ?_ ⟨rfl, hS, Below.refl _ _⟩
                clear hS h0 hd hrun
                go_simp
              case refine_29 =>
                intro hrun a' w9 hS h0 hd
                have e80 : a'.tmps[80]?.getD undef = .slice (some ⟨rb, ro, none⟩) m d6 := evG (hd 26 List.mem_cons_self)
                have e81 : a'.tmps[81]?.getD undef = .int .i64 (k : Nat) := evG (hd 27 (List.mem_cons_of_mem _ List.mem_cons_self))
                have hk0 := HKM.out
                refine Does2.value (.pointer (some ⟨rb, ro + k * 3, none⟩)) (w' := w9) ?_ ⟨rfl, hS, Below.refl _ _⟩
                clear hS h0 hd hrun
                go_simp
              case refine_30 =>
                intro hrun a' w9 hS h0 hd
                have e82 : a'.tmps[82]?.getD undef = .pointer (some ⟨rb, ro + k * 3, none⟩) := evG (hd 28 List.mem_cons_self)
                refine Does2.value (.pointer (some ⟨rb, ro + k * 3 + 2, none⟩)) (w' := w9) ?_ ⟨rfl, hS, Below.refl _ _⟩
                clear hS h0 hd hrun
                go_simp
              case refine_31 =>
                intro hrun a' w9 hS h0 hd
                have e83 : a'.tmps[83]?.getD undef = .pointer (some ⟨rb, ro + k * 3 + 2, none⟩) := evG (hd 29 List.mem_cons_self)
                have c0 := (hS.cell (cell_lt RS.out)).trans RS.out
                refine Does2.value (.slice ra rsr.length rc) (w' := w9) ?_ ⟨rfl, hS, Below.refl _ _⟩
                clear hS h0 hd hrun
                go_simp
              case refine_32 =>
                intro hrun a' w9 hS h0 hd
                have e1 : a'.tmps[1]?.getD undef = .int .u32 x := evG (h0 1 (by kernel_rfl))
                refine Does2.value (.int .u32 x) (w' := w9) ?_ ⟨rfl, hS, Below.refl _ _⟩
                clear hS h0 hd hrun
                go_simp
              case refine_33 =>
                intro hrun a' w9 hS h0 hd
                have e84 : a'.tmps[84]?.getD undef = .slice ra rsr.length rc := evG (hd 30 List.mem_cons_self)
                have e85 : a'.tmps[85]?.getD undef = .int .u32 x := evG (hd 31 (List.mem_cons_of_mem _ List.mem_cons_self))
                refine Does2.call 39 #[.slice ra rsr.length rc, .int .u32 x] (w' := w9) ?_ ((rHas ra _ rc rsr x w9 rfl (by have := HLL.out; omega) (HRA.out.below hS)).mono ?_)
                · clear hS h0 hd
                  go_simp
                · rw [HIN1.out]
                  rintro e w8 ⟨rfl, hw⟩
                  subst hw
                  exact ⟨_, rfl, rfl, hS, Below.refl _ _⟩
              case refine_34 =>
                intro hrun a' w9 hS h0 hd
                have e10 : a'.tmps[10]?.getD undef = .bool true := evG (h0 10 (by kernel_rfl))
                refine Does2.value (.bool true) (w' := w9) ?_ ⟨rfl, hS, Below.refl _ _⟩
                clear hS h0 hd hrun
                go_simp
              case refine_35 =>
                intro hrun a' w9 hS h0 hd
                have e86 : a'.tmps[86]?.getD undef = .bool hin1 := evG (hd 32 List.mem_cons_self)
                have e87 : a'.tmps[87]?.getD undef = .bool true := evG (hd 33 (List.mem_cons_of_mem _ List.mem_cons_self))
                refine Does2.value (.bool (hin1 != true)) (w' := w9) ?_ ⟨rfl, hS, Below.refl _ _⟩
                clear hS h0 hd hrun
                go_simp
              case refine_36 =>
                intro hrun a' w9 hS h0 hd
                have e79 : a'.tmps[79]?.getD undef = .bool (hin1 != true) := evG (hd 25 List.mem_cons_self)
                have e88 : a'.tmps[88]?.getD undef = .bool (hin1 != true) := evG (hd 34 (List.mem_cons_of_mem _ List.mem_cons_self))
                refine Does2.value (.bool false) (w' := w9) ?_ ⟨rfl, hS, Below.refl _ _⟩
                clear hS h0 hd hrun
                go_simp
              case refine_37 =>
                intro hrun a' w9 hS h0 hd
                have e76 : a'.tmps[76]?.getD undef = .bool false := evG (hd 22 List.mem_cons_self)
                have e89 : a'.tmps[89]?.getD undef = .bool false := evG (hd 35 (List.mem_cons_of_mem _ List.mem_cons_self))
                refine Does2.value (.bool false) (w' := w9) ?_ ⟨rfl, hS, Below.refl _ _⟩
                clear hS h0 hd hrun
                go_simp
              case refine_38 =>
                intro hrun a' w9 hS h0 hd
                have e90 : a'.tmps[90]?.getD undef = .bool false := evG (hd 36 List.mem_cons_self)
                refine Does2.value (.bool false) (w' := w9) ?_ ⟨rfl, hS, Below.refl _ _⟩
                clear hS h0 hd hrun
                go_simp
              case refine_39 =>
                intro hrun a' w9 hS h0 hd
                have e10 : a'.tmps[10]?.getD undef = .bool true := evG (h0 10 (by kernel_rfl))
                refine Does2.value (.bool true) (w' := w9) ?_ ⟨rfl, hS, Below.refl _ _⟩
                clear hS h0 hd hrun
                go_simp
              case refine_40 =>
                intro hrun a' w9 hS h0 hd
                have e92 : a'.tmps[92]?.getD undef = .bool true := evG (hd 38 List.mem_cons_self)
                refine Does2.value (.bool false) (w' := w9) ?_ ⟨rfl, hS, Below.refl _ _⟩
                clear hS h0 hd hrun
                go_simp
              case refine_41 =>
                intro hrun a' w9 hS h0 hd
                have e93 : a'.tmps[93]?.getD undef = .bool false := evG (hd 39 List.mem_cons_self)
                refine Does2.value (.bool false) (w' := w9) ?_ ⟨rfl, hS, Below.refl _ _⟩
                clear hS h0 hd hrun
                go_simp
              case refine_42 =>
                intro hrun a' w9 hS h0 hd
                exact absurd hrun (by decide)
              case refine_43 =>
                intro hrun a' w9 hS h0 hd
                exact absurd hrun (by decide)
              case refine_44 =>
                intro hrun a' w9 hS h0 hd
                exact absurd hrun (by decide)
              case refine_45 =>
                intro hrun a' w9 hS h0 hd
                exact absurd hrun (by decide)
              case refine_46 =>
                intro hrun a' w9 hS h0 hd
                exact absurd hrun (by decide)
              case refine_47 =>
                intro hrun a' w9 hS h0 hd
                exact absurd hrun (by decide)
              case refine_48 =>
                intro hrun a' w9 hS h0 hd
                exact absurd hrun (by decide)
              case refine_49 =>
                intro hrun a' w9 hS h0 hd
                have e94 : a'.tmps[94]?.getD undef = .bool false := evG (hd 40 List.mem_cons_self)
                have e101 : a'.tmps[101]?.getD undef = undef := evG (hd 47 (List.mem_cons_of_mem _ List.mem_cons_self))
                refine Does2.value (.bool false) (w' := w9) ?_ ⟨rfl, hS, Below.refl _ _⟩
                clear hS h0 hd hrun
                go_simp
              case refine_50 =>
                intro hrun a' w9 hS h0 hd
                have e91 : a'.tmps[91]?.getD undef = .bool false := evG (hd 37 List.mem_cons_self)
                have e102 : a'.tmps[102]?.getD undef = .bool false := evG (hd 48 (List.mem_cons_of_mem _ List.mem_cons_self))
                refine Does2.value (.bool false) (w' := w9) ?_ ⟨rfl, hS, Below.refl _ _⟩
                clear hS h0 hd hrun
                go_simp
              case hend =>
                intro f3 w4 hS hv
                have v103 := hv 49 (by decide)
                replace v103 : f3 103 = .bool false := v103
                simp only [putAll, Act.put, List.setIfInBounds_toArray, List.set_cons_zero, List.set_cons_succ, v103]
                have HB9 := Lib.hid (BWR3.out.trans (hS.mono BWR3.out.size))
                clear hS hv v103
                go_wp2_with fail
                go_roundw
                case rel => exact ⟨k + 1, by go_num, by omega, HB9.out⟩
                case measure => simp [intOf]; omega
        · obtain rfl : k = m := by omega
          have BB := Lib.hid (BB.out.trans (BWR.out.mono BB.out.size))
          have SS := Lib.hid (SS.out.below BWR.out)
          have K6 := Lib.hid (K6.out.below BWR.out)
          have c0 := (BWR.out.cell (cell_lt c0)).trans c0
          go_wp2_with fail
          refine (hAnswer a n c ss 17 1 0 0 0 0 false none 0 0 [] (.slice none 0 0) _ HX.out HFW.out SS.out rfl (by omega) (As.nil _ _) (by omega)).mono ?_
          rintro e w5 ⟨⟨b7, d7, rs7, rfl, m7, k7, n7⟩, hb⟩
          have hans : answer ss 17 0 [] = gs.map (one ss) := by unfold answer; rw [if_pos rfl, if_pos rfl, HGS.out]; exact tell_map HOK.out gs HGM.out
          rw [hans] at m7
          have M7 := Lib.hid (M6.out.trans m7.symm)
          have K7 := Lib.hid k7
          have K6 := Lib.hid (K6.out.below hb)
          have BB := Lib.hid (BB.out.trans (hb.mono BB.out.size))
          have hr7 : rs7.length = k := by have := congrArg List.length m7; simp at this; rw [this, HM.out]
          have HSR : Hid (∀ s ∈ rs, s.srcs.length ≤ 1000000000) := Lib.hid (fun s hs => by
            have h1 : s.nm ∈ (gs.map (one ss)).map Rc.nm := M6.out ▸ List.mem_map.2 ⟨s, hs, rfl⟩
            obtain ⟨r, hr, e⟩ := List.mem_map.1 h1
            obtain ⟨g, _, rfl⟩ := List.mem_map.1 hr
            have h2 := flt_len (ofG_few (g := g) HFW.out)
            have h3 : (wants g ss).2 = s.srcs := congrArg (fun z => z.srcs) e
            rw [← h3]; unfold wants; omega)
          rw [hr7]
          have HR7 := Lib.hid hr7
          clear m7 k7 n7 hb hans hr7
          go_wp2_with fail
          refine (rRecs b6 b7 k k d6 d7 rs rs7 _ HRL.out HR7.out (by omega) (by omega) HSR.out K6.out K7.out).mono ?_
          rintro e w6 ⟨rfl, hb⟩
          rw [decide_eq_true M7.out]
          have BB := Lib.hid (BB.out.trans (hb.mono BB.out.size))
          clear hb
          go_wp2_with fail
          go_ret
          exact ⟨rfl, BB.out⟩
    · rw [decide_eq_false q2]
      clear q2
      go_wp2_with fail
      go_ret
      exact ⟨rfl, BB.out⟩
  · rw [decide_eq_false q1]
    clear q1
    go_wp2_with fail
    go_ret
    exact ⟨rfl, BB.out⟩

set_option maxRecDepth 100000 in
theorem contract (H : Type) (enc : TypeId × Value → H) (W : World) (base : Nat) (args : Array Value) (ds gs : List (DataW H)) (before : List MemPlace)
    (hval : ∀ (j : Nat) t v, Try.f9.params[j]? = some t → args[j]? = some v → Value.okWide Try.prog W .any base t v)
    (hW : DataW.Whole enc Try.prog Try.f9.params.toList Rows.hostGroupsSpec.vars false W args.toList ds gs before) (hsz : (DataW.weightsEach Try.prog (Try.f9.params.toList ++ Rows.hostGroupsSpec.plain.varTypes Try.prog) (ds ++ gs)).all (· ≤ reachBytes) = true) :
    Calls Try.prog 9 args W fun e W' => ∃ v, e = .returned v ∧ Rows.hostGroupsSpec.post enc Try.prog Try.f9 false true false false W args v W' := by
  have hW' := hW
  obtain ⟨p, q, hA0, hV, rfl, hfz, hnd⟩ := hW
  have hA : DataW.TrodAll enc Try.prog W 0 (fun _ => true) true Try.f9.params.toList args.toList ds p := hA0
  rw [Try.params9] at hA hval
  obtain ⟨v0, vs0, d0, ds0, p0, q0, hargs, rfl, rfl, h0, r0⟩ := trodAll_cons hA
  obtain ⟨v1, vs1, d1, ds1, p1, q1, rfl, rfl, rfl, h1, r1⟩ := trodAll_cons r0
  obtain ⟨rfl, rfl, rfl⟩ := trodAll_nil r1
  obtain rfl : args = #[v0, v1] := by cases args; simp_all
  obtain ⟨rfl, rfl⟩ := trodVars_none hV
  have k0 := h0
  have lt0 : ∀ x ∈ p0, x.block < W.heap.size := by obtain ⟨m, hm⟩ := k0; exact DataW.trod_lt m _ _ _ hm
  have k1 := h1
  have lt1 : ∀ x ∈ p1, x.block < W.heap.size := by obtain ⟨m, hm⟩ := k1; exact DataW.trod_lt m _ _ _ hm
  obtain ⟨a0, c0, s0, rfl, y0⟩ := open_host (hval 0 36 v0 rfl rfl) h0 (fun x hx => by simpa using List.all_eq_true.1 hsz _ (DataW.weights_mem_each (j := 0) rfl rfl x hx))
  obtain ⟨a1, rfl, rfl, rfl, w1⟩ := open_int Try.underlying27 (hval 1 27 v1 rfl rfl) h1
  clear hA0
  refine (walk W a0 c0 s0 y0 a1 (bounds_u32 w1)).mono fun e W' ⟨he, bel⟩ => ?_
  subst he
  exact ⟨_, rfl, _, _, _, [], _, [], hW', trodAll_mk1 (shut_bool Try.underlying4 _), (trodAll_cons_mk (Below.trod laidOut (by kernel_rfl) (of_decide_eq_true (by kernel_rfl)) k0 bel lt0) (trodAll_cons_mk (Below.trod laidOut (by kernel_rfl) (of_decide_eq_true (by kernel_rfl)) k1 bel lt1) trodAll_mk0)), rfl, bel.frame _, fun h => by cases h⟩

set_option maxRecDepth 100000 in
theorem lifted (os : Os) (started : os.Started) (H : Type) (enc : TypeId × Value → H) :
    ReturnsInHanded {} Try.checked os 9 .any (Rows.hostGroupsSpec.pre6 enc Try.prog Try.f9 Rows.hostGroupsRow.domain false) (Rows.hostGroupsSpec.post enc Try.prog Try.f9 false true false false) := by
  refine returnsInHanded_of_change_sized (C := Try.checked) own started (by kernel_rfl) Try.func9
    (ChangeSpec.witness6 (enc := enc) (C := Try.checked) false ⟨#[], #[(.agg #[.slice none 0 0]), (.int .u32 0)], []⟩ 8 (by kernel_rfl) (by kernel_rfl) (by kernel_rfl) (by kernel_rfl)) ?_
  intro W base args ds gs before hval hW hcnd hsz _
  exact contract H enc W base args ds gs before hval hW hsz
theorem said : Rows.HostGroupsSaid :=
  OpenClaim.holds_of_wide 9 Try.f9 rfl rfl rfl rfl rfl rfl rfl ⟨rfl, rfl, rfl, rfl, rfl⟩ rfl rfl rfl rfl rfl (by kernel_rfl) Try.func9 (by kernel_rfl)
    (of_decide_eq_true (by kernel_rfl)) (by unfold Func.isWrapper; first | (rw [if_pos (by decide +kernel)]; kernel_rfl) | (rw [if_neg (by decide +kernel)]; exact ⟨rfl, rfl⟩))
    (fun os started H enc _ => lifted os started H enc)
#print axioms said
end Go.Proofs.Ytmcbbccbonadjaa.hostGroups
