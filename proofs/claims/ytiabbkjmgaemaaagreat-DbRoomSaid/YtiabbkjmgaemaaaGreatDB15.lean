/- Which databases are right (the program's answer). -/
import Derived.Test.YtiabbkjmgaemaaaGreatDB0
import Derived.Test.YtiabbkjmgaemaaaGreatDB1
import Derived.Test.YtiabbkjmgaemaaaGreatDB2
import Derived.Test.YtiabbkjmgaemaaaGreatDB3
import Derived.Test.YtiabbkjmgaemaaaGreatDB4
import Derived.Test.YtiabbkjmgaemaaaGreatDB5
import Derived.Test.YtiabbkjmgaemaaaGreatDB6
import Derived.Test.YtiabbkjmgaemaaaGreatDB7
import Derived.Test.YtiabbkjmgaemaaaGreatDB8
import Derived.Test.YtiabbkjmgaemaaaGreatDB9
import Derived.Test.YtiabbkjmgaemaaaGreatDB10
import Derived.Test.YtiabbkjmgaemaaaGreatDB11
import Derived.Test.YtiabbkjmgaemaaaGreatDB12
import Derived.Test.YtiabbkjmgaemaaaGreatDB13
import Derived.Test.YtiabbkjmgaemaaaGreatDB14
namespace Go.Proofs.YtiabbkjmgaemaaaGreat
set_option linter.unusedVariables false
open Go.RowKit

def sm (p : Plc) : Bool := p.ex || decide (0 < p.s.length)
/-- A place is right by itself. -/
def okP (p : Plc) : Prop := (0 ≤ p.port ∧ p.port ≤ 63) ∧ (0 ≤ p.v1 ∧ p.v1 ≤ 1000000) ∧ (0 ≤ p.v2 ∧ p.v2 ≤ 1000000) ∧ okM p.g p.ex p.left p.s ∧ sm p = true
instance (p : Plc) : Decidable (okP p) := by unfold okP; infer_instance
instance (l : List Plc) : Decidable (Ris9 l) := by unfold Ris9; infer_instance
/-- A database is right. -/
def okD (kp la lim : Int) (l : List Plc) : Prop := mayP kp la ∧ (0 ≤ lim ∧ lim ≤ 256) ∧ (l.length : Int) ≤ lim ∧ Ris9 l ∧ ∀ p ∈ l, okP p
instance (kp la lim : Int) (l : List Plc) : Decidable (okD kp la lim l) := by unfold okD; infer_instance
theorem dIsLimit (x : Int) (w : World) :
    Calls Tryz.prog 60 #[.int .i64 x] w fun e w' => e = .returned (.bool (decide (0 ≤ x ∧ x ≤ 256))) ∧ w = w' := by
  by_cases h1 : 0 ≤ x
  · by_cases h2 : x ≤ 256
    · have HE : Hid (decide (0 ≤ x ∧ x ≤ 256) = true) := Lib.hid (decide_eq_true ⟨h1, h2⟩)
      have h1' : decide (0 ≤ x) = true := decide_eq_true h1
      have h2' : decide (x ≤ 256) = true := decide_eq_true h2
      go_enter Tryz.func60, Tryz.ntmps60
      go_wp2
      go_ret
      exact ⟨ret_bool HE.out.symm, rfl⟩
    · have HE : Hid (decide (0 ≤ x ∧ x ≤ 256) = false) := Lib.hid (decide_eq_false fun h => h2 h.2)
      have h1' : decide (0 ≤ x) = true := decide_eq_true h1
      have h2' : decide (x ≤ 256) = false := decide_eq_false h2
      clear h2
      go_enter Tryz.func60, Tryz.ntmps60
      go_wp2
      go_ret
      exact ⟨ret_bool HE.out.symm, rfl⟩
  · have HE : Hid (decide (0 ≤ x ∧ x ≤ 256) = false) := Lib.hid (decide_eq_false fun h => h1 h.1)
    have h1' : decide (0 ≤ x) = false := decide_eq_false h1
    clear h1
    go_enter Tryz.func60, Tryz.ntmps60
    go_wp2
    go_ret
    exact ⟨ret_bool HE.out.symm, rfl⟩
theorem dIsPort (x : Int) (w : World) :
    Calls Tryz.prog 51 #[.int .i64 x] w fun e w' => e = .returned (.bool (decide (0 ≤ x ∧ x < 64))) ∧ w = w' := by
  by_cases h1 : 0 ≤ x
  · by_cases h2 : x < 64
    · have HE : Hid (decide (0 ≤ x ∧ x < 64) = true) := Lib.hid (decide_eq_true ⟨h1, h2⟩)
      have h1' : decide (0 ≤ x) = true := decide_eq_true h1
      have h2' : decide (x < 64) = true := decide_eq_true h2
      go_enter Tryz.func51, Tryz.ntmps51
      go_wp2
      go_ret
      exact ⟨ret_bool HE.out.symm, rfl⟩
    · have HE : Hid (decide (0 ≤ x ∧ x < 64) = false) := Lib.hid (decide_eq_false fun h => h2 h.2)
      have h1' : decide (0 ≤ x) = true := decide_eq_true h1
      have h2' : decide (x < 64) = false := decide_eq_false h2
      clear h2
      go_enter Tryz.func51, Tryz.ntmps51
      go_wp2
      go_ret
      exact ⟨ret_bool HE.out.symm, rfl⟩
  · have HE : Hid (decide (0 ≤ x ∧ x < 64) = false) := Lib.hid (decide_eq_false fun h => h1 h.1)
    have h1' : decide (0 ≤ x) = false := decide_eq_false h1
    clear h1
    go_enter Tryz.func51, Tryz.ntmps51
    go_wp2
    go_ret
    exact ⟨ret_bool HE.out.symm, rfl⟩
theorem dIsTime (x : Int) (w : World) :
    Calls Tryz.prog 101 #[.int .i64 x] w fun e w' => e = .returned (.bool (decide (0 ≤ x ∧ x ≤ 1000000))) ∧ w = w' := by
  by_cases h1 : 0 ≤ x
  · by_cases h2 : x ≤ 1000000
    · have HE : Hid (decide (0 ≤ x ∧ x ≤ 1000000) = true) := Lib.hid (decide_eq_true ⟨h1, h2⟩)
      have h1' : decide (0 ≤ x) = true := decide_eq_true h1
      have h2' : decide (x ≤ 1000000) = true := decide_eq_true h2
      go_enter Tryz.func101, Tryz.ntmps101
      go_wp2
      go_ret
      exact ⟨ret_bool HE.out.symm, rfl⟩
    · have HE : Hid (decide (0 ≤ x ∧ x ≤ 1000000) = false) := Lib.hid (decide_eq_false fun h => h2 h.2)
      have h1' : decide (0 ≤ x) = true := decide_eq_true h1
      have h2' : decide (x ≤ 1000000) = false := decide_eq_false h2
      clear h2
      go_enter Tryz.func101, Tryz.ntmps101
      go_wp2
      go_ret
      exact ⟨ret_bool HE.out.symm, rfl⟩
  · have HE : Hid (decide (0 ≤ x ∧ x ≤ 1000000) = false) := Lib.hid (decide_eq_false fun h => h1 h.1)
    have h1' : decide (0 ≤ x) = false := decide_eq_false h1
    clear h1
    go_enter Tryz.func101, Tryz.ntmps101
    go_wp2
    go_ret
    exact ⟨ret_bool HE.out.symm, rfl⟩
theorem mkPlcW (w : World) (po v1 v2 g : Int) (ex : Bool) (left : Int) (a : Option Addr) (n c : Nat) (W : World)
    (hW : W = (w.alloc (.cells #[.int .i64 po, .int .i64 v1, .int .i64 v2, .int .u32 g, .bool ex, .int .i64 left, .slice a n c] 77))) :
    PV W w.heap.size po v1 v2 g ex left a n c ∧ Below w.heap.size w W ∧ W.heap.size = w.heap.size + 1 := by
  subst hW
  have e0 : w.heap.size = w.heap.size := rfl
  have e1 : (w.alloc (.cells #[.int .i64 po, .int .i64 v1, .int .i64 v2, .int .u32 g, .bool ex, .int .i64 left, .slice a n c] 77)).heap.size = w.heap.size + 1 := by rw [World.size_alloc]
  have u0 := PV.new w po v1 v2 g ex left a n c
  exact ⟨u0, ((Below.refl _ w).alloc (by exact Nat.le_refl _) _), e1⟩
set_option maxRecDepth 100000 in
set_option maxHeartbeats 4000000 in
theorem dIsRight (po v1 v2 g : Int) (ex : Bool) (left : Int) (a : Option Addr) (n c : Nat) (s : List Hd) (w : World) (hx : s.length = n) (hn : n ≤ 100000) (hH : Hs w a s) :
    Calls Tryz.prog 62 #[.agg #[.int .i64 po, .int .i64 v1, .int .i64 v2, .int .u32 g, .bool ex, .int .i64 left, .slice a n c]] w fun e w' => e = .returned (.bool (decide (okP ⟨po, v1, v2, g, ex, left, s, a, c⟩))) ∧ Below w.heap.size w w' := by
  obtain ⟨b1, hb1⟩ : ∃ b, decide (0 ≤ po ∧ po < 64) = b := ⟨_, rfl⟩
  obtain ⟨b2, hb2⟩ : ∃ b, decide (0 ≤ v1 ∧ v1 ≤ 1000000) = b := ⟨_, rfl⟩
  obtain ⟨b3, hb3⟩ : ∃ b, decide (0 ≤ v2 ∧ v2 ≤ 1000000) = b := ⟨_, rfl⟩
  obtain ⟨b4, hb4⟩ : ∃ b, decide (okM g ex left s) = b := ⟨_, rfl⟩
  obtain ⟨b5, hb5⟩ : ∃ b, (ex || decide (0 < n)) = b := ⟨_, rfl⟩
  have HE : Hid (decide (okP ⟨po, v1, v2, g, ex, left, s, a, c⟩) = (b1 && (b2 && (b3 && (b4 && b5))))) := Lib.hid (by
    rw [← hb1, ← hb2, ← hb3, ← hb4, ← hb5, ← hx, ← Bool.decide_coe (ex || decide (0 < s.length)), ← Bool.decide_and, ← Bool.decide_and, ← Bool.decide_and, ← Bool.decide_and]
    exact decide_eq_decide.2 (by unfold okP sm; simp only; constructor
                                 · rintro ⟨k1, k2, k3, k4, k5⟩; exact ⟨by omega, k2, k3, k4, k5⟩
                                 · rintro ⟨k1, k2, k3, k4, k5⟩; exact ⟨by omega, k2, k3, k4, k5⟩))
  have B1 := Lib.hid hb1
  have B2 := Lib.hid hb2
  have B3 := Lib.hid hb3
  have B4 := Lib.hid hb4
  have B5 := Lib.hid hb5
  have HX := Lib.hid hx
  obtain ⟨w1, hw1⟩ : ∃ w1, w1 = w.alloc (.cells #[.int .i64 po, .int .i64 v1, .int .i64 v2, .int .u32 g, .bool ex, .int .i64 left, .slice a n c] 77) := ⟨_, rfl⟩
  obtain ⟨hv, hb, -⟩ := mkPlcW w po v1 v2 g ex left a n c w1 hw1
  have HB := Lib.hid hb
  have V := Lib.hid hv
  have HH := Lib.hid (hH.below hb)
  clear hb1 hb2 hb3 hb4 hb5 hx hb hv hH
  go_enter Tryz.func62, Tryz.ntmps62
  obtain ⟨c0, c1, c2, c3, c4, c5, c6, -⟩ := V.out.cells
  go_wp2_with fail
  rw [← hw1]
  clear hw1
  refine (dIsPort po w1).mono ?_
  rintro e w2 ⟨rfl, rfl⟩
  rw [B1.out]
  cases b1
  · go_wp2_with fail
    go_ret
    exact ⟨ret_bool HE.out.symm, HB.out⟩
  go_wp2_with fail
  refine (dIsTime v1 w1).mono ?_
  rintro e w2 ⟨rfl, rfl⟩
  rw [B2.out]
  cases b2
  · go_wp2_with fail
    go_ret
    exact ⟨ret_bool HE.out.symm, HB.out⟩
  go_wp2_with fail
  refine (dIsTime v2 w1).mono ?_
  rintro e w2 ⟨rfl, rfl⟩
  rw [B3.out]
  cases b3
  · go_wp2_with fail
    go_ret
    exact ⟨ret_bool HE.out.symm, HB.out⟩
  go_wp2_with fail
  refine (zRight g ex left a n c s w1 HX.out hn HH.out).mono ?_
  rintro e w2 ⟨rfl, hb⟩
  rw [B4.out]
  replace V := Lib.hid (V.out.below hb V.out.lt)
  replace HB := Lib.hid (HB.out.trans (hb.mono HB.out.size))
  clear hb c0 c1 c2 c3 c4 c5 c6 HH
  obtain ⟨c0, c1, c2, c3, c4, c5, c6, -⟩ := V.out.cells
  cases b4
  · go_wp2_with fail
    go_ret
    exact ⟨ret_bool HE.out.symm, HB.out⟩
  go_wp2_with fail
  refine (mSome g ex left a n c w2).mono ?_
  rintro e w3 ⟨rfl, hb⟩
  rw [B5.out]
  replace HB := Lib.hid (HB.out.trans (hb.mono HB.out.size))
  clear hb c0 c1 c2 c3 c4 c5 c6
  cases b5
  · go_wp2_with fail
    go_ret
    exact ⟨ret_bool HE.out.symm, HB.out⟩
  · go_wp2_with fail
    go_ret
    exact ⟨ret_bool HE.out.symm, HB.out⟩
set_option maxRecDepth 100000 in
set_option maxHeartbeats 4000000 in
theorem dWrong (po v1 v2 g : Int) (ex : Bool) (left : Int) (a : Option Addr) (n c : Nat) (s : List Hd) (w : World) (hx : s.length = n) (hn : n ≤ 100000) (hH : Hs w a s) :
    Calls Tryz.prog 61 #[.agg #[.int .i64 po, .int .i64 v1, .int .i64 v2, .int .u32 g, .bool ex, .int .i64 left, .slice a n c]] w fun e w' => e = .returned (.bool (!decide (okP ⟨po, v1, v2, g, ex, left, s, a, c⟩))) ∧ Below w.heap.size w w' := by
  have HX := Lib.hid hx
  have hb := bel1 w (.cells #[.int .i64 po, .int .i64 v1, .int .i64 v2, .int .u32 g, .bool ex, .int .i64 left, .slice a n c] 77)
  have HH := Lib.hid (hH.below hb)
  have HB := Lib.hid hb
  clear hx hH hb
  go_enter Tryz.func61, Tryz.ntmps61
  go_wp2_with fail
  refine (dIsRight po v1 v2 g ex left a n c s _ HX.out hn HH.out).mono ?_
  rintro e w2 ⟨rfl, hb⟩
  have HB2 := Lib.hid (HB.out.trans (hb.mono HB.out.size))
  clear hb
  obtain ⟨q, hq⟩ : ∃ q, decide (okP ⟨po, v1, v2, g, ex, left, s, a, c⟩) = q := ⟨_, rfl⟩
  rw [hq]
  have HQ := Lib.hid hq
  clear hq
  cases q
  all_goals
    go_wp2_with fail
    go_ret
    exact ⟨ret_bool (by rw [HQ.out]; rfl), HB2.out⟩
def wr9 (p : Plc) : Bool := !decide (okP p)
set_option maxRecDepth 100000 in
set_option maxHeartbeats 4000000 in
theorem dIdxW (a : Option Addr) (n c : Nat) (l : List Plc) (w : World) (hx : l.length = n) (hn : n ≤ 100000) (hH : Pls w a l) (hf : ∀ p ∈ l, p.s.length ≤ 100000) :
    Calls Tryz.prog 103 #[.slice a n c, .func (.func 61) #[] #[]] w fun e w' =>
      (∃ r : Int, e = .returned (.int .i64 r) ∧ ((r = -1 ∧ ∀ p ∈ l, wr9 p = false) ∨ ∃ (k : Nat) (p : Plc), r = (k : Int) ∧ l[k]? = some p ∧ wr9 p = true ∧ ∀ p' ∈ l.take k, wr9 p' = false)) ∧ Below w.heap.size w w' := by
  have HX := Lib.hid hx
  have HH := Lib.hid hH
  have HFEW := Lib.hid hf
  clear hf
  clear hx hH
  go_enter Tryz.func103, Tryz.ntmps103
  go_wp2
  go_loopw [8] (fun v wr => ∃ k : Nat, v = .int .i64 (k : Int) ∧ k ≤ n ∧ (∀ p ∈ l.take k, wr9 p = false) ∧ Below w.heap.size w wr) (fun v _ => n - (intOf v).toNat)
  case atStart => exact ⟨0, rfl, by omega, by simp, Below.refl _ _⟩
  case round =>
    obtain ⟨k, rfl, hk, hno, hB⟩ := hrel
    have HNO := Lib.hid hno
    have HB := Lib.hid hB
    clear hno hB
    by_cases hlt : k < n
    · obtain ⟨b, off, rfl, hc⟩ := HH.out.at (k := k) (by rw [HX.out]; exact hlt)
      obtain ⟨p, hfk⟩ : ∃ y, l[k]? = some y := ⟨_, List.getElem?_eq_getElem (by rw [HX.out]; exact hlt)⟩
      obtain ⟨hce, hpo⟩ := (hc k _ hfk).below HB.out
      have hmem := List.mem_of_getElem? hfk
      obtain ⟨po, v1, v2, g, ex, left, s1, a1, c1⟩ := p
      obtain ⟨n1, hn1⟩ : ∃ n1, s1.length = n1 := ⟨_, rfl⟩
      unfold PCs Plc.sl at hce
      simp only [hn1] at hce
      obtain ⟨d0, d1, d2, d3, d4, d5, d6⟩ := hce
      have HN1 := Lib.hid hn1
      have HFK := Lib.hid hfk
      have HPO := Lib.hid hpo
      have HMM := Lib.hid hmem
      have hkz : (k : Int) < (n : Int) := by omega
      clear hc hfk hpo hn1 hmem
      go_wp2_with fail
      refine (dWrong po v1 v2 g ex left a1 n1 c1 s1 wr HN1.out (by rw [← HN1.out]; exact HFEW.out _ HMM.out) HPO.out.1).mono ?_
      rintro e w1 ⟨rfl, hb1⟩
      have HB1 := Lib.hid (HB.out.trans (hb1.mono HB.out.size))
      clear hb1 d0 d1 d2 d3 d4 d5 d6
      obtain ⟨q, hq⟩ : ∃ q, wr9 ⟨po, v1, v2, g, ex, left, s1, a1, c1⟩ = q := ⟨_, rfl⟩
      rw [show (!decide (okP ⟨po, v1, v2, g, ex, left, s1, a1, c1⟩)) = q from hq]
      have HQ := Lib.hid hq
      clear hq
      cases q
      · go_wp2_with fail
        go_roundw
        case rel =>
          refine ⟨k + 1, by go_num, by omega, ?_, HB1.out⟩
          rw [takeH HFK.out]
          intro y hy
          rcases List.mem_append.1 hy with h1 | h1
          · exact HNO.out y h1
          · obtain rfl : y = _ := by simpa using h1
            exact HQ.out
        case measure => simp [intOf]; omega
      · go_wp2_with fail
        go_ret
        exact ⟨⟨k, rfl, .inr ⟨k, _, rfl, HFK.out, HQ.out, HNO.out⟩⟩, HB1.out⟩
    · obtain rfl : k = n := by omega
      go_wp2_with fail
      go_ret
      have h1 := HNO.out
      rw [List.take_of_length_le (by rw [HX.out]; exact Nat.le_refl _)] at h1
      exact ⟨⟨-1, rfl, .inl ⟨rfl, h1⟩⟩, HB.out⟩
set_option maxRecDepth 100000 in
set_option maxHeartbeats 4000000 in
theorem dSomeC (po v1 v2 g : Int) (ex : Bool) (left : Int) (a : Option Addr) (n c : Nat) (w : World) :
    Calls Tryz.prog 110 #[.agg #[.int .i64 po, .int .i64 v1, .int .i64 v2, .int .u32 g, .bool ex, .int .i64 left, .slice a n c]] w fun e w' => e = .returned (.bool (!(ex || decide (0 < n)))) ∧ Below w.heap.size w w' := by
  have hb := bel1 w (.cells #[.int .i64 po, .int .i64 v1, .int .i64 v2, .int .u32 g, .bool ex, .int .i64 left, .slice a n c] 77)
  have HB := Lib.hid hb
  clear hb
  go_enter Tryz.func110, Tryz.ntmps110
  go_wp2_with fail
  refine (mSome g ex left a n c _).mono ?_
  rintro e w2 ⟨rfl, hb⟩
  have HB2 := Lib.hid (HB.out.trans (hb.mono HB.out.size))
  clear hb
  obtain ⟨q, hq⟩ : ∃ q, (ex || decide (0 < n)) = q := ⟨_, rfl⟩
  rw [hq]
  have HQ := Lib.hid hq
  clear hq
  cases q
  all_goals
    go_wp2_with fail
    go_ret
    exact ⟨ret_bool (by rw [HQ.out]; rfl), HB2.out⟩
def gone9 (p : Plc) : Bool := !sm p
set_option maxRecDepth 100000 in
set_option maxHeartbeats 4000000 in
theorem dIdxS (a : Option Addr) (n c : Nat) (l : List Plc) (w : World) (hx : l.length = n) (hn : n ≤ 100000) (hH : Pls w a l) :
    Calls Tryz.prog 103 #[.slice a n c, .func (.func 110) #[] #[]] w fun e w' =>
      (∃ r : Int, e = .returned (.int .i64 r) ∧ ((r = -1 ∧ ∀ p ∈ l, gone9 p = false) ∨ ∃ (k : Nat) (p : Plc), r = (k : Int) ∧ l[k]? = some p ∧ gone9 p = true ∧ ∀ p' ∈ l.take k, gone9 p' = false)) ∧ Below w.heap.size w w' := by
  have HX := Lib.hid hx
  have HH := Lib.hid hH
  clear hx hH
  go_enter Tryz.func103, Tryz.ntmps103
  go_wp2
  go_loopw [8] (fun v wr => ∃ k : Nat, v = .int .i64 (k : Int) ∧ k ≤ n ∧ (∀ p ∈ l.take k, gone9 p = false) ∧ Below w.heap.size w wr) (fun v _ => n - (intOf v).toNat)
  case atStart => exact ⟨0, rfl, by omega, by simp, Below.refl _ _⟩
  case round =>
    obtain ⟨k, rfl, hk, hno, hB⟩ := hrel
    have HNO := Lib.hid hno
    have HB := Lib.hid hB
    clear hno hB
    by_cases hlt : k < n
    · obtain ⟨b, off, rfl, hc⟩ := HH.out.at (k := k) (by rw [HX.out]; exact hlt)
      obtain ⟨p, hfk⟩ : ∃ y, l[k]? = some y := ⟨_, List.getElem?_eq_getElem (by rw [HX.out]; exact hlt)⟩
      obtain ⟨hce, hpo⟩ := (hc k _ hfk).below HB.out
      have hmem := List.mem_of_getElem? hfk
      obtain ⟨po, v1, v2, g, ex, left, s1, a1, c1⟩ := p
      obtain ⟨n1, hn1⟩ : ∃ n1, s1.length = n1 := ⟨_, rfl⟩
      unfold PCs Plc.sl at hce
      simp only [hn1] at hce
      obtain ⟨d0, d1, d2, d3, d4, d5, d6⟩ := hce
      have HN1 := Lib.hid hn1
      have HFK := Lib.hid hfk
      have HPO := Lib.hid hpo
      have HMM := Lib.hid hmem
      have hkz : (k : Int) < (n : Int) := by omega
      clear hc hfk hpo hn1 hmem
      go_wp2_with fail
      refine (dSomeC po v1 v2 g ex left a1 n1 c1 wr).mono ?_
      rintro e w1 ⟨rfl, hb1⟩
      have HB1 := Lib.hid (HB.out.trans (hb1.mono HB.out.size))
      clear hb1 d0 d1 d2 d3 d4 d5 d6
      obtain ⟨q, hq⟩ : ∃ q, gone9 ⟨po, v1, v2, g, ex, left, s1, a1, c1⟩ = q := ⟨_, rfl⟩
      rw [show (!(ex || decide (0 < n1))) = q from by rw [← hq, ← HN1.out]; rfl]
      have HQ := Lib.hid hq
      clear hq
      cases q
      · go_wp2_with fail
        go_roundw
        case rel =>
          refine ⟨k + 1, by go_num, by omega, ?_, HB1.out⟩
          rw [takeH HFK.out]
          intro y hy
          rcases List.mem_append.1 hy with h1 | h1
          · exact HNO.out y h1
          · obtain rfl : y = _ := by simpa using h1
            exact HQ.out
        case measure => simp [intOf]; omega
      · go_wp2_with fail
        go_ret
        exact ⟨⟨k, rfl, .inr ⟨k, _, rfl, HFK.out, HQ.out, HNO.out⟩⟩, HB1.out⟩
    · obtain rfl : k = n := by omega
      go_wp2_with fail
      go_ret
      have h1 := HNO.out
      rw [List.take_of_length_le (by rw [HX.out]; exact Nat.le_refl _)] at h1
      exact ⟨⟨-1, rfl, .inl ⟨rfl, h1⟩⟩, HB.out⟩
set_option maxRecDepth 100000 in
set_option maxHeartbeats 4000000 in
theorem dContains (a : Option Addr) (n c : Nat) (l : List Plc) (w : World) (hx : l.length = n) (hn : n ≤ 100000) (hH : Pls w a l) (hf : ∀ p ∈ l, p.s.length ≤ 100000) :
    Calls Tryz.prog 64 #[.slice a n c, .func (.func 61) #[] #[]] w fun e w' => e = .returned (.bool (!decide (∀ p ∈ l, okP p))) ∧ Below w.heap.size w w' := by
  have HX := Lib.hid hx
  have HH := Lib.hid hH
  have HF := Lib.hid hf
  clear hx hH hf
  go_enter Tryz.func64, Tryz.ntmps64
  go_wp2_with fail
  refine (dIdxW a n c l _ HX.out hn HH.out HF.out).mono ?_
  rintro e w1 ⟨⟨r, rfl, hr⟩, hb⟩
  have HR : Hid (decide (0 ≤ r) = !decide (∀ p ∈ l, okP p)) := Lib.hid (by
    rcases hr with ⟨rfl, h⟩ | ⟨k, p, rfl, hp, hq, -⟩
    · rw [decide_eq_true (p := ∀ p ∈ l, okP p) (fun p hp => by have := h p hp; unfold wr9 at this; simpa using this)]
      rfl
    · rw [decide_eq_false (p := ∀ p ∈ l, okP p) (fun h => by have := h p (List.mem_of_getElem? hp); unfold wr9 at hq; simp [this] at hq), decide_eq_true (by omega)]
      rfl)
  have HB := Lib.hid hb
  clear hr hb
  go_wp2_with fail
  go_ret
  exact ⟨ret_bool HR.out, HB.out⟩
end Go.Proofs.YtiabbkjmgaemaaaGreat
/- Whether places rise; which databases are right; a new one; what a port wants. -/
namespace Go.Proofs.YtiabbkjmgaemaaaGreat
set_option linter.unusedVariables false
open Go.RowKit

theorem ris_snoc9 {l : List Plc} {j i : Nat} {p q : Plc} (hij : j + 1 = i) (h : Ris9 (l.take i)) (hp : l[j]? = some p) (hq : l[i]? = some q) (hlt : p.k < q.k) : Ris9 (l.take (i + 1)) := by
  unfold Ris9 at h ⊢
  rw [takeH hq, List.pairwise_append]
  refine ⟨h, by simp, fun x hx y hy => ?_⟩
  obtain rfl : y = q := by simpa using hy
  rw [← hij, takeH hp] at h hx
  rw [List.pairwise_append] at h
  rcases List.mem_append.1 hx with h1 | h1
  · have := h.2.2 x h1 p (by simp); omega
  · obtain rfl : x = p := by simpa using h1
    exact hlt
theorem ris_no9 {l : List Plc} {j i : Nat} {p q : Plc} (hij : j + 1 = i) (hp : l[j]? = some p) (hq : l[i]? = some q) (hlt : ¬ p.k < q.k) : ¬ Ris9 l := fun h => by
  unfold Ris9 at h
  rw [List.pairwise_iff_getElem] at h
  obtain ⟨h1, rfl⟩ := List.getElem?_eq_some_iff.1 hp
  obtain ⟨h2, rfl⟩ := List.getElem?_eq_some_iff.1 hq
  exact hlt (h j i h1 h2 (by omega))
def riV (b off n c ii jj : Nat) (po1 va1 vb1 g1 : Int) (ex1 : Bool) (lf1 : Int) (a1 : Option Addr) (n1 c1 : Nat) (po2 va2 vb2 g2 : Int) (ex2 : Bool) (lf2 : Int) (a2 : Option Addr) (n2 c2 : Nat) (bb : Bool) : Nat → Value → List Value → World → Prop
  | 0, v, _, _ => v = .slice (some ⟨b, off, none⟩) n c
  | 1, v, _, _ => v = .int .i64 (ii : Int)
  | 2, v, _, _ => v = .int .i64 (jj : Int)
  | 3, v, _, _ => v = .pointer (some ⟨b, off + jj * 7, none⟩)
  | 4, v, _, _ => v = .agg #[.int .i64 po1, .int .i64 va1, .int .i64 vb1, .int .u32 g1, .bool ex1, .int .i64 lf1, .slice a1 n1 c1]
  | 5, v, _, _ => v = .agg #[.int .i64 po1, .int .u32 g1]
  | 6, v, _, _ => v = .slice (some ⟨b, off, none⟩) n c
  | 7, v, _, _ => v = .int .i64 (ii : Int)
  | 8, v, _, _ => v = .pointer (some ⟨b, off + ii * 7, none⟩)
  | 9, v, _, _ => v = .agg #[.int .i64 po2, .int .i64 va2, .int .i64 vb2, .int .u32 g2, .bool ex2, .int .i64 lf2, .slice a2 n2 c2]
  | 10, v, _, _ => v = .agg #[.int .i64 po2, .int .u32 g2]
  | 11, v, _, _ => v = .bool bb
  | 12, v, _, _ => v = .bool (!bb)
  | _, _, _, _ => True
def riD : Nat → List Nat
  | 2 => [1]
  | 3 => [0, 2]
  | 4 => [3]
  | 5 => [4]
  | 8 => [6, 7]
  | 9 => [8]
  | 10 => [9]
  | 11 => [5, 10]
  | 12 => [11]
  | _ => []
theorem ri_st (b off n c ii jj : Nat) (po1 va1 vb1 g1 : Int) (ex1 : Bool) (lf1 : Int) (a1 : Option Addr) (n1 c1 : Nat) (po2 va2 vb2 g2 : Int) (ex2 : Bool) (lf2 : Int) (a2 : Option Addr) (n2 c2 : Nat) (bb : Bool) {i : Nat} {v : Value} {us : List Value} {w w' : World}  (hr : Below w.heap.size w w') (hv : riV b off n c ii jj po1 va1 vb1 g1 ex1 lf1 a1 n1 c1 po2 va2 vb2 g2 ex2 lf2 a2 n2 c2 bb i v us w) : riV b off n c ii jj po1 va1 vb1 g1 ex1 lf1 a1 n1 c1 po2 va2 vb2 g2 ex2 lf2 a2 n2 c2 bb i v us w' := by
  unfold riV at hv ⊢
  split at hv
  all_goals first
    | exact hv
set_option maxRecDepth 100000 in
set_option maxHeartbeats 4000000 in
theorem dRises (a : Option Addr) (n c : Nat) (l : List Plc) (w : World) (hx : l.length = n) (hn : n ≤ 100000) (hH : Pls w a l) :
    Calls Tryz.prog 63 #[.slice a n c] w fun e w' => e = .returned (.bool (decide (Ris9 l))) ∧ Below w.heap.size w w' := by
  have HX := Lib.hid hx
  have HH := Lib.hid hH
  clear hx hH
  go_enter Tryz.func63, Tryz.ntmps63
  go_wp2
  go_loopw [3] (fun v wr => ∃ i : Nat, v = .int .i64 (i : Int) ∧ 1 ≤ i ∧ (i ≤ n ∨ i = 1) ∧ Ris9 (l.take i) ∧ Below w.heap.size w wr) (fun v _ => n + 1 - (intOf v).toNat)
  case atStart => exact ⟨1, rfl, by omega, .inr rfl, by unfold Ris9; cases l <;> simp, Below.refl _ _⟩
  case round =>
    obtain ⟨ii, rfl, hi1, hin, hris, hB⟩ := hrel
    have HRI := Lib.hid hris
    have HB := Lib.hid hB
    clear hris hB
    by_cases hlt : ii < n
    · obtain ⟨jj, hjj⟩ : ∃ jj, jj + 1 = ii := ⟨ii - 1, by omega⟩
      have hw1 : (ii : Int) - 1 = (jj : Int) := by omega
      obtain ⟨b, off, rfl, hc⟩ := HH.out.at (k := ii) (by rw [HX.out]; exact hlt)
      obtain ⟨p, hp⟩ : ∃ y, l[jj]? = some y := ⟨_, List.getElem?_eq_getElem (by rw [HX.out]; omega)⟩
      obtain ⟨q, hq⟩ : ∃ y, l[ii]? = some y := ⟨_, List.getElem?_eq_getElem (by rw [HX.out]; exact hlt)⟩
      obtain ⟨hce1, hpo1⟩ := (hc jj _ hp).below HB.out
      obtain ⟨hce2, hpo2⟩ := (hc ii _ hq).below HB.out
      obtain ⟨bb, hbb⟩ : ∃ bb, decide (p.k < q.k) = bb := ⟨_, rfl⟩
      have HYR : Hid (bb = true → Ris9 (l.take (ii + 1))) := Lib.hid (fun e => ris_snoc9 hjj HRI.out hp hq (of_decide_eq_true (hbb.trans e)))
      have HNR : Hid (bb = false → ¬ Ris9 l) := Lib.hid (fun e => ris_no9 hjj hp hq (of_decide_eq_false (hbb.trans e)))
      have HG1 : Hid (0 ≤ p.g ∧ p.g ≤ 4294967295) := Lib.hid hpo1.2.2.1
      have HG2 : Hid (0 ≤ q.g ∧ q.g ≤ 4294967295) := Lib.hid hpo2.2.2.1
      have CE1 := Lib.hid hce1
      have CE2 := Lib.hid hce2
      have HBB : Hid (decide (p.port * 4294967296 + p.g < q.port * 4294967296 + q.g) = bb) := Lib.hid hbb
      clear hc hp hq hce1 hpo1 hce2 hpo2 hbb HRI
      obtain ⟨po1, va1, vb1, g1, ex1, lf1, s1, a1, c1⟩ := p
      obtain ⟨po2, va2, vb2, g2, ex2, lf2, s2, a2, c2⟩ := q
      simp only at HG1 HG2 HBB
      obtain ⟨n1, hn1⟩ : ∃ n1, s1.length = n1 := ⟨_, rfl⟩
      obtain ⟨n2, hn2⟩ : ∃ n2, s2.length = n2 := ⟨_, rfl⟩
      have HN1 := Lib.hid hn1
      have HN2 := Lib.hid hn2
      clear hn1 hn2
      have i1 : (ii : Int) < (n : Int) := by omega
      have i2 : (0 : Int) ≤ (ii : Int) := by omega
      have j1 : (jj : Int) < (n : Int) := by omega
      have j2 : (0 : Int) ≤ (jj : Int) := by omega
      have j3 : IntKind.i64.wrap (jj : Int) = (jj : Int) := vwrap (by omega) (by omega)
      have j4 : IntKind.i64.wrap ((ii : Int) - 1) = (jj : Int) := by rw [hw1]; exact j3
      clear hjj
      go_wp2_with fail
      refine wp_region_each3 (riV b off n c ii jj po1 va1 vb1 g1 ex1 lf1 a1 n1 c1 po2 va2 vb2 g2 ex2 lf2 a2 n2 c2 bb) (fun W => Below wr.heap.size wr W) (fun _ A B => Below A.heap.size A B) riD [10, 11, 12, 13, 14, 15, 16, 17, 18, 19, 20, 21, 22] (by kernel_rfl) (by kernel_rfl) (by kernel_rfl) (Below.refl _ wr).drew
        (fun i j oi oj v us A B hoi hoj hij hw hSA hr hv => ri_st _ _ _ _ _ _ _ _ _ _ _ _ _ _ _ _ _ _ _ _ _ _ _ _ _ hr hv) ?hgd
        ⟨?_, ?_, ?_, ?_, ?_, ?_, ?_, ?_, ?_, ?_, ?_, ?_, ?_, trivial⟩ ?hend
      case hgd =>
        intro i o g b hoi hog v us w hv
        have hi : i < 13 := (Array.getElem?_eq_some_iff.1 hoi).1
        have hc : i = 0 ∨ i = 1 ∨ i = 2 ∨ i = 3 ∨ i = 4 ∨ i = 5 ∨ i = 6 ∨ i = 7 ∨ i = 8 ∨ i = 9 ∨ i = 10 ∨ i = 11 ∨ i = 12 := by omega
        rcases hc with rfl | rfl | rfl | rfl | rfl | rfl | rfl | rfl | rfl | rfl | rfl | rfl | rfl
        · cases hoi; cases hog
        · cases hoi; cases hog
        · cases hoi; cases hog
        · cases hoi; cases hog
        · cases hoi; cases hog
        · cases hoi; cases hog
        · cases hoi; cases hog
        · cases hoi; cases hog
        · cases hoi; cases hog
        · cases hoi; cases hog
        · cases hoi; cases hog
        · cases hoi; cases hog
        · cases hoi; cases hog
      case refine_1 =>
        intro a' w9 hS h0 hd
        have e0 : a'.tmps[0]?.getD undef = .slice (some ⟨b, off, none⟩) n c := vev (h0 0 (by kernel_rfl))
        refine Does2.value (.slice (some ⟨b, off, none⟩) n c) (w' := w9) ?_ ⟨rfl, hS, Below.refl _ _⟩
        clear hS h0 hd
        go_simp
      case refine_2 =>
        intro a' w9 hS h0 hd
        have e3 : a'.tmps[3]?.getD undef = .int .i64 (ii : Int) := vev (h0 3 (by kernel_rfl))
        refine Does2.value (.int .i64 (ii : Int)) (w' := w9) ?_ ⟨rfl, hS, Below.refl _ _⟩
        clear hS h0 hd
        go_simp
      case refine_3 =>
        intro a' w9 hS h0 hd
        have e11 : a'.tmps[11]?.getD undef = .int .i64 (ii : Int) := vev (hd 1 List.mem_cons_self)
        refine Does2.value (.int .i64 (jj : Int)) (w' := w9) ?_ ⟨rfl, hS, Below.refl _ _⟩
        clear hS h0 hd
        go_simp
      case refine_4 =>
        intro a' w9 hS h0 hd
        have e10 : a'.tmps[10]?.getD undef = .slice (some ⟨b, off, none⟩) n c := vev (hd 0 List.mem_cons_self)
        have e12 : a'.tmps[12]?.getD undef = .int .i64 (jj : Int) := vev (hd 2 (List.mem_cons_of_mem _ List.mem_cons_self))
        refine Does2.value (.pointer (some ⟨b, off + jj * 7, none⟩)) (w' := w9) ?_ ⟨rfl, hS, Below.refl _ _⟩
        clear hS h0 hd
        go_simp
      case refine_5 =>
        intro a' w9 hS h0 hd
        have e13 : a'.tmps[13]?.getD undef = .pointer (some ⟨b, off + jj * 7, none⟩) := vev (hd 3 List.mem_cons_self)
        have ce := CE1.out.below hS
        unfold PCs Plc.sl at ce
        simp only [HN1.out] at ce
        obtain ⟨y0, y1, y2, y3, y4, y5, y6⟩ := ce
        refine Does2.value (.agg #[.int .i64 po1, .int .i64 va1, .int .i64 vb1, .int .u32 g1, .bool ex1, .int .i64 lf1, .slice a1 n1 c1]) (w' := w9) ?_ ⟨rfl, hS, Below.refl _ _⟩
        clear hS h0 hd
        go_simp
      case refine_6 =>
        intro a' w9 hS h0 hd
        have e14 : a'.tmps[14]?.getD undef = .agg #[.int .i64 po1, .int .i64 va1, .int .i64 vb1, .int .u32 g1, .bool ex1, .int .i64 lf1, .slice a1 n1 c1] := vev (hd 4 List.mem_cons_self)
        refine Does2.call 91 #[.agg #[.int .i64 po1, .int .i64 va1, .int .i64 vb1, .int .u32 g1, .bool ex1, .int .i64 lf1, .slice a1 n1 c1]] (w' := w9) ?_ ((dKeyOf po1 va1 vb1 g1 ex1 lf1 a1 n1 c1 w9).mono ?_)
        · clear hS h0 hd
          go_simp
        · rintro e w8 ⟨rfl, hb⟩
          exact ⟨_, rfl, rfl, hS.trans (hb.mono hS.size), hb⟩
      case refine_7 =>
        intro a' w9 hS h0 hd
        have e0 : a'.tmps[0]?.getD undef = .slice (some ⟨b, off, none⟩) n c := vev (h0 0 (by kernel_rfl))
        refine Does2.value (.slice (some ⟨b, off, none⟩) n c) (w' := w9) ?_ ⟨rfl, hS, Below.refl _ _⟩
        clear hS h0 hd
        go_simp
      case refine_8 =>
        intro a' w9 hS h0 hd
        have e3 : a'.tmps[3]?.getD undef = .int .i64 (ii : Int) := vev (h0 3 (by kernel_rfl))
        refine Does2.value (.int .i64 (ii : Int)) (w' := w9) ?_ ⟨rfl, hS, Below.refl _ _⟩
        clear hS h0 hd
        go_simp
      case refine_9 =>
        intro a' w9 hS h0 hd
        have e16 : a'.tmps[16]?.getD undef = .slice (some ⟨b, off, none⟩) n c := vev (hd 6 List.mem_cons_self)
        have e17 : a'.tmps[17]?.getD undef = .int .i64 (ii : Int) := vev (hd 7 (List.mem_cons_of_mem _ List.mem_cons_self))
        refine Does2.value (.pointer (some ⟨b, off + ii * 7, none⟩)) (w' := w9) ?_ ⟨rfl, hS, Below.refl _ _⟩
        clear hS h0 hd
        go_simp
      case refine_10 =>
        intro a' w9 hS h0 hd
        have e18 : a'.tmps[18]?.getD undef = .pointer (some ⟨b, off + ii * 7, none⟩) := vev (hd 8 List.mem_cons_self)
        have ce := CE2.out.below hS
        unfold PCs Plc.sl at ce
        simp only [HN2.out] at ce
        obtain ⟨y0, y1, y2, y3, y4, y5, y6⟩ := ce
        refine Does2.value (.agg #[.int .i64 po2, .int .i64 va2, .int .i64 vb2, .int .u32 g2, .bool ex2, .int .i64 lf2, .slice a2 n2 c2]) (w' := w9) ?_ ⟨rfl, hS, Below.refl _ _⟩
        clear hS h0 hd
        go_simp
      case refine_11 =>
        intro a' w9 hS h0 hd
        have e19 : a'.tmps[19]?.getD undef = .agg #[.int .i64 po2, .int .i64 va2, .int .i64 vb2, .int .u32 g2, .bool ex2, .int .i64 lf2, .slice a2 n2 c2] := vev (hd 9 List.mem_cons_self)
        refine Does2.call 91 #[.agg #[.int .i64 po2, .int .i64 va2, .int .i64 vb2, .int .u32 g2, .bool ex2, .int .i64 lf2, .slice a2 n2 c2]] (w' := w9) ?_ ((dKeyOf po2 va2 vb2 g2 ex2 lf2 a2 n2 c2 w9).mono ?_)
        · clear hS h0 hd
          go_simp
        · rintro e w8 ⟨rfl, hb⟩
          exact ⟨_, rfl, rfl, hS.trans (hb.mono hS.size), hb⟩
      case refine_12 =>
        intro a' w9 hS h0 hd
        have e15 : a'.tmps[15]?.getD undef = .agg #[.int .i64 po1, .int .u32 g1] := vev (hd 5 List.mem_cons_self)
        have e20 : a'.tmps[20]?.getD undef = .agg #[.int .i64 po2, .int .u32 g2] := vev (hd 10 (List.mem_cons_of_mem _ List.mem_cons_self))
        refine Does2.call 97 #[.agg #[.int .i64 po1, .int .u32 g1], .agg #[.int .i64 po2, .int .u32 g2]] (w' := w9) ?_ ((dKLess po1 g1 po2 g2 w9 HG1.out HG2.out).mono ?_)
        · clear hS h0 hd
          go_simp
        · rw [HBB.out]
          rintro e w8 ⟨rfl, hb⟩
          exact ⟨_, rfl, rfl, hS.trans (hb.mono hS.size), hb⟩
      case refine_13 =>
        intro a' w9 hS h0 hd
        have e21 : a'.tmps[21]?.getD undef = .bool bb := vev (hd 11 List.mem_cons_self)
        refine Does2.value (.bool (!bb)) (w' := w9) ?_ ⟨rfl, hS, Below.refl _ _⟩
        clear hS h0 hd
        go_simp
      case hend =>
        intro f w9 hS hv
        have v22 := hv 12 (by decide)
        replace v22 : f 22 = .bool (!bb) := v22
        simp only [putAll, Act.put, List.setIfInBounds_toArray, List.set_cons_zero, List.set_cons_succ, v22]
        have HB9 := Lib.hid (HB.out.trans (hS.mono HB.out.size))
        clear hS hv v22
        cases bb
        · go_wp2_with fail
          go_ret
          exact ⟨ret_bool (decide_eq_false (by first | exact HNR.out rfl | exact HNR.out trivial | exact HNR.out)).symm, HB9.out⟩
        · go_wp2_with fail
          go_roundw
          case rel => exact ⟨ii + 1, by go_num, by omega, .inl (by omega), (by first | exact HYR.out rfl | exact HYR.out trivial | exact HYR.out), HB9.out⟩
          case measure => simp [intOf]; omega
    · have hf : decide ((ii : Int) < (n : Int)) = false := decide_eq_false (by omega)
      have HF : Hid (Ris9 l) := Lib.hid (by
        have h1 := HRI.out
        rwa [List.take_of_length_le (by rw [HX.out]; omega)] at h1)
      clear HRI
      go_wp2_with fail
      go_ret
      exact ⟨ret_bool (decide_eq_true HF.out).symm, HB.out⟩
theorem mkDbW (w : World) (kp la lim : Int) (a : Option Addr) (n c : Nat) (W : World)
    (hW : W = (w.alloc (.cells #[.int .i64 kp, .int .i64 la, .int .i64 lim, .slice a n c] 46))) :
    DV W w.heap.size kp la lim a n c ∧ Below w.heap.size w W ∧ W.heap.size = w.heap.size + 1 := by
  subst hW
  have e0 : w.heap.size = w.heap.size := rfl
  have e1 : (w.alloc (.cells #[.int .i64 kp, .int .i64 la, .int .i64 lim, .slice a n c] 46)).heap.size = w.heap.size + 1 := by rw [World.size_alloc]
  have u0 := DV.new w kp la lim a n c
  exact ⟨u0, ((Below.refl _ w).alloc (by exact Nat.le_refl _) _), e1⟩
set_option maxRecDepth 100000 in
set_option maxHeartbeats 4000000 in
theorem dRight9 (kp la lim : Int) (a : Option Addr) (n c : Nat) (l : List Plc) (w : World) (hx : l.length = n) (hn : n ≤ 100000) (hH : Pls w a l) (hf : ∀ p ∈ l, p.s.length ≤ 100000) :
    Calls Tryz.prog 29 #[.agg #[.int .i64 kp, .int .i64 la, .int .i64 lim, .slice a n c]] w fun e w' => e = .returned (.bool (decide (okD kp la lim l))) ∧ Below w.heap.size w w' := by
  obtain ⟨b1, hb1⟩ : ∃ b, decide (mayP kp la) = b := ⟨_, rfl⟩
  obtain ⟨b2, hb2⟩ : ∃ b, decide (0 ≤ lim ∧ lim ≤ 256) = b := ⟨_, rfl⟩
  obtain ⟨b3, hb3⟩ : ∃ b, decide ((n : Int) ≤ lim) = b := ⟨_, rfl⟩
  obtain ⟨b4, hb4⟩ : ∃ b, decide (Ris9 l) = b := ⟨_, rfl⟩
  obtain ⟨b5, hb5⟩ : ∃ b, decide (∀ p ∈ l, okP p) = b := ⟨_, rfl⟩
  have HE : Hid (decide (okD kp la lim l) = (b1 && (b2 && (b3 && (b4 && b5))))) := Lib.hid (by
    rw [← hb1, ← hb2, ← hb3, ← hb4, ← hb5, ← hx, ← Bool.decide_and, ← Bool.decide_and, ← Bool.decide_and, ← Bool.decide_and]
    exact decide_eq_decide.2 (by unfold okD; exact Iff.rfl))
  have B1 := Lib.hid hb1
  have B2 := Lib.hid hb2
  have B4 := Lib.hid hb4
  have B5 := Lib.hid hb5
  have HX := Lib.hid hx
  have HF := Lib.hid hf
  obtain ⟨w1, hw1⟩ : ∃ w1, w1 = w.alloc (.cells #[.int .i64 kp, .int .i64 la, .int .i64 lim, .slice a n c] 46) := ⟨_, rfl⟩
  obtain ⟨hv, hb, -⟩ := mkDbW w kp la lim a n c w1 hw1
  have HB := Lib.hid hb
  have V := Lib.hid hv
  have HH := Lib.hid (hH.below hb)
  clear hb1 hb2 hb4 hb5 hx hb hv hH hf
  go_enter Tryz.func29, Tryz.ntmps29
  obtain ⟨c0, c1, c2, c3, -⟩ := V.out.cells
  go_wp2_with fail
  rw [← hw1]
  clear hw1
  refine (mMay kp la w1).mono ?_
  rintro e w2 ⟨rfl, hb⟩
  rw [B1.out]
  replace V := Lib.hid (V.out.below hb V.out.lt)
  replace HH := Lib.hid (HH.out.below hb)
  replace HB := Lib.hid (HB.out.trans (hb.mono HB.out.size))
  clear hb c0 c1 c2 c3
  obtain ⟨c0, c1, c2, c3, -⟩ := V.out.cells
  cases b1
  · go_wp2_with fail
    go_ret
    exact ⟨ret_bool HE.out.symm, HB.out⟩
  go_wp2_with fail
  refine (dIsLimit lim w2).mono ?_
  rintro e w3 ⟨rfl, rfl⟩
  rw [B2.out]
  cases b2
  · go_wp2_with fail
    go_ret
    exact ⟨ret_bool HE.out.symm, HB.out⟩
  cases b3
  · go_wp2_with fail
    go_ret
    exact ⟨ret_bool HE.out.symm, HB.out⟩
  go_wp2_with fail
  refine (dRises a n c l w2 HX.out hn HH.out).mono ?_
  rintro e w3 ⟨rfl, hb⟩
  rw [B4.out]
  replace V := Lib.hid (V.out.below hb V.out.lt)
  replace HH := Lib.hid (HH.out.below hb)
  replace HB := Lib.hid (HB.out.trans (hb.mono HB.out.size))
  clear hb c0 c1 c2 c3
  obtain ⟨c0, c1, c2, c3, -⟩ := V.out.cells
  cases b4
  · go_wp2_with fail
    go_ret
    exact ⟨ret_bool HE.out.symm, HB.out⟩
  go_wp2_with fail
  refine (dContains a n c l w3 HX.out hn HH.out HF.out).mono ?_
  rintro e w4 ⟨rfl, hb⟩
  rw [B5.out]
  replace HB := Lib.hid (HB.out.trans (hb.mono HB.out.size))
  clear hb c0 c1 c2 c3
  cases b5
  · go_wp2_with fail
    go_ret
    exact ⟨ret_bool HE.out.symm, HB.out⟩
  · go_wp2_with fail
    go_ret
    exact ⟨ret_bool HE.out.symm, HB.out⟩
end Go.Proofs.YtiabbkjmgaemaaaGreat
/- A new database; what a port wants; the ports that want. -/
namespace Go.Proofs.YtiabbkjmgaemaaaGreat
set_option linter.unusedVariables false
open Go.RowKit

theorem ret_cell29 {P : Program} {fn : Func} {R : Ending → World → Prop} {a : Act} {w : World} {p u : Nat} {ty : TypeId} {q : Addr} {x : Value} (hr : fn.results = #[.cell p ty, .tmp u]) (hd : a.defers = []) (hp : a.tmps.getD p undef = .pointer (some q))
    (hl : (loadVar ty q).run P w = .ok x w) (hR : R (.returned (.tuple #[x, a.tmps.getD u undef])) w) : bodyPost P fn R .ret a w := by
  refine ⟨hd, _, ?_, hR⟩
  have hp' : a.tmps[p]?.getD undef = .pointer (some q) := by simpa using hp
  simp only [results, hr]
  simp [Result.andThen, asAddr, hp', hl]
theorem mkNewW (w : World) (kp la : Int) (d1 d2 d3 : Int) (W : World)
    (hW : W = ((w.alloc (.cells #[.int .i64 kp, .int .i64 la] 23)).alloc (.cells #[.int .i64 d1, .int .i64 d2, .int .i64 d3, .slice none 0 0] 46))) :
    TV W w.heap.size kp la ∧ DV W (w.heap.size + 1) d1 d2 d3 none 0 0 ∧ Below w.heap.size w W ∧ W.heap.size = w.heap.size + 2 := by
  subst hW
  have e0 : w.heap.size = w.heap.size := rfl
  have e1 : (w.alloc (.cells #[.int .i64 kp, .int .i64 la] 23)).heap.size = w.heap.size + 1 := by rw [World.size_alloc]
  have e2 : ((w.alloc (.cells #[.int .i64 kp, .int .i64 la] 23)).alloc (.cells #[.int .i64 d1, .int .i64 d2, .int .i64 d3, .slice none 0 0] 46)).heap.size = w.heap.size + 2 := by rw [World.size_alloc, e1]
  have u0 := TV.new w kp la
  have u1 := DV.new (w.alloc (.cells #[.int .i64 kp, .int .i64 la] 23)) d1 d2 d3 none 0 0
  rw [e1] at u1
  exact ⟨(u0.keep _), u1, (((Below.refl _ w).alloc (by exact Nat.le_refl _) _).alloc (by rw [e1]; omega) _), e2⟩
set_option maxRecDepth 100000 in
set_option maxHeartbeats 4000000 in
theorem dNew (kp la lim : Int) (w : World) :
    Calls Tryz.prog 27 #[.agg #[.int .i64 kp, .int .i64 la], .int .i64 lim] w fun e w' =>
      (((mayP kp la ∧ 0 ≤ lim ∧ lim ≤ 256) ∧ e = .returned (.tuple #[.agg #[.int .i64 kp, .int .i64 la, .int .i64 lim, .slice none 0 0], .int .i64 0])) ∨
       (¬ (mayP kp la ∧ 0 ≤ lim ∧ lim ≤ 256) ∧ e = .returned (.tuple #[.agg #[.int .i64 0, .int .i64 0, .int .i64 0, .slice none 0 0], .int .i64 1]))) ∧ Below w.heap.size w w' := by
  obtain ⟨w2, hw2⟩ : ∃ w2, w2 = (w.alloc (.cells #[.int .i64 kp, .int .i64 la] 23)).alloc (.cells #[.int .i64 0, .int .i64 0, .int .i64 0, .slice none 0 0] 46) := ⟨_, rfl⟩
  obtain ⟨hv0, hv1, hb, -⟩ := mkNewW w kp la 0 0 0 w2 hw2
  obtain ⟨m, hm⟩ : ∃ m, decide (mayP kp la) = m := ⟨_, rfl⟩
  obtain ⟨q, hq⟩ : ∃ q, decide (0 ≤ lim ∧ lim ≤ 256) = q := ⟨_, rfl⟩
  have HM := Lib.hid hm
  have HQ := Lib.hid hq
  have V0 := Lib.hid hv0
  have V1 := Lib.hid hv1
  have HB := Lib.hid hb
  clear hv0 hv1 hb hm hq
  go_enter Tryz.func27, Tryz.ntmps27
  obtain ⟨c0, c1, -⟩ := V0.out.cells
  go_wp2_with fail
  rw [← hw2]
  clear hw2
  refine (mMay kp la w2).mono ?_
  rintro e w3 ⟨rfl, hb⟩
  rw [HM.out]
  replace V0 := Lib.hid (V0.out.below hb V0.out.lt)
  replace V1 := Lib.hid (V1.out.below hb V1.out.lt)
  replace HB := Lib.hid (HB.out.trans (hb.mono HB.out.size))
  clear hb c0 c1
  obtain ⟨c0, c1, -⟩ := V0.out.cells
  obtain ⟨d0, d1, d2, d3, f0, f1, f2, f3⟩ := V1.out.cells
  cases m
  · go_wp2_with fail
    refine ret_cell29 (p := 4) rfl rfl rfl (V1.out.store 0 0 0 none 0 0).load ?_
    exact ⟨.inr ⟨fun h => of_decide_eq_false HM.out h.1, rfl⟩, HB.out.trans ((V1.out.store_but 0 0 0 none 0 0).below (by omega) HB.out.size)⟩
  · go_wp2_with fail
    refine (dIsLimit lim w3).mono ?_
    rintro e w4 ⟨rfl, rfl⟩
    rw [HQ.out]
    cases q
    · go_wp2_with fail
      refine ret_cell29 (p := 4) rfl rfl rfl (V1.out.store 0 0 0 none 0 0).load ?_
      exact ⟨.inr ⟨fun h => of_decide_eq_false HQ.out h.2, rfl⟩, HB.out.trans ((V1.out.store_but 0 0 0 none 0 0).below (by omega) HB.out.size)⟩
    · go_wp2_with fail
      refine ret_cell29 (p := 4) rfl rfl rfl (V1.out.store kp la lim none 0 0).load ?_
      exact ⟨.inl ⟨⟨of_decide_eq_true HM.out, of_decide_eq_true HQ.out⟩, rfl⟩, HB.out.trans ((V1.out.store_but kp la lim none 0 0).below (by omega) HB.out.size)⟩
def wants9 (l : List Plc) (id x : Int) : Bool := match at9 id l with | some p => wantsP p.ex p.s x | none => false
/-- Sources that may be asked for. -/
def okW (l : List Plc) : Prop := ∀ p ∈ l, Inc (ad p.s) ∧ NN p.s ∧ p.s.length ≤ 100000
theorem found_at {id : Int} {l : List Plc} {k : Nat} {b : Bool} (hr : Ris9 l) (h : Found9 id l k b) : (b = true ∧ ∃ p, l[k]? = some p ∧ at9 id l = some p) ∨ (b = false ∧ at9 id l = none) := by
  obtain ⟨_, _, ⟨rfl, ⟨p, hp, e⟩, _⟩ | ⟨rfl, h, _⟩⟩ := h
  · exact .inl ⟨rfl, p, hp, at9_some hr (List.mem_of_getElem? hp) e⟩
  · exact .inr ⟨rfl, at9_none h⟩
set_option maxRecDepth 100000 in
set_option maxHeartbeats 4000000 in
theorem dWants (kp la lim : Int) (a : Option Addr) (n c : Nat) (l : List Plc) (po g x : Int) (w : World) (hx : l.length = n) (hn : n ≤ 100000) (hH : Pls w a l) (hr : Ris9 l) (hk : okW l) (hg : 0 ≤ g ∧ g ≤ 4294967295) :
    Calls Tryz.prog 31 #[.agg #[.int .i64 kp, .int .i64 la, .int .i64 lim, .slice a n c], .int .i64 po, .int .u32 g, .int .u32 x] w fun e w' => e = .returned (.bool (wants9 l (po * 4294967296 + g) x)) ∧ Below w.heap.size w w' := by
  have HX := Lib.hid hx
  have HR := Lib.hid hr
  have HK := Lib.hid hk
  have HG := Lib.hid hg
  obtain ⟨w1, hw1⟩ : ∃ w1, w1 = w.alloc (.cells #[.int .i64 kp, .int .i64 la, .int .i64 lim, .slice a n c] 46) := ⟨_, rfl⟩
  obtain ⟨hv, hb, -⟩ := mkDbW w kp la lim a n c w1 hw1
  have HB := Lib.hid hb
  have V := Lib.hid hv
  have HH := Lib.hid (hH.below hb)
  clear hx hr hk hg hv hb hH
  go_enter Tryz.func31, Tryz.ntmps31
  obtain ⟨c0, c1, c2, c3, -⟩ := V.out.cells
  go_wp2_with fail
  rw [← hw1]
  clear hw1
  refine (dFind a n c l po g w1 HX.out (by omega) HR.out HH.out HG.out).mono ?_
  rintro e w2 ⟨⟨k, b, rfl, hfd⟩, hb⟩
  replace HH := Lib.hid (HH.out.below hb)
  replace HB := Lib.hid (HB.out.trans (hb.mono HB.out.size))
  replace V := Lib.hid (V.out.below hb V.out.lt)
  clear hb c0 c1 c2 c3
  obtain ⟨c0, c1, c2, c3, -⟩ := V.out.cells
  rcases found_at HR.out hfd with ⟨rfl, p, hp, hat⟩ | ⟨rfl, hat⟩
  · have hlt : k < n := by rw [← HX.out]; exact (List.getElem?_eq_some_iff.1 hp).1
    obtain ⟨b, off, rfl, hc⟩ := HH.out.at (k := k) (by rw [HX.out]; exact hlt)
    obtain ⟨hce, hpo⟩ := hc k _ hp
    have HOK := Lib.hid (HK.out p (List.mem_of_getElem? hp))
    have HV : Hid (wants9 l (po * 4294967296 + g) x = wantsP p.ex p.s x) := Lib.hid (by unfold wants9; rw [hat])
    clear hc hp hat hfd
    obtain ⟨po1, v1, v2, g1, ex, left, s1, a1, c1'⟩ := p
    obtain ⟨n1, hn1⟩ : ∃ n1, s1.length = n1 := ⟨_, rfl⟩
    unfold PCs Plc.sl at hce
    simp only [hn1] at hce HOK HV
    obtain ⟨d0, d1, d2, d3, d4, d5, d6⟩ := hce
    have HN1 := Lib.hid hn1
    have HPO := Lib.hid hpo
    have hkz : (k : Int) < (n : Int) := by omega
    have hkz0 : (0 : Int) ≤ (k : Int) := by omega
    clear hn1 hpo
    go_wp2_with fail
    refine (mWants g1 ex left a1 n1 c1' s1 x w2 HN1.out HOK.out.2.2 HPO.out.1 HOK.out.1 HOK.out.2.1).mono ?_
    rintro e w3 ⟨rfl, hb⟩
    have HB3 := Lib.hid (HB.out.trans (hb.mono HB.out.size))
    clear hb d0 d1 d2 d3 d4 d5 d6 c0 c1 c2 c3
    obtain ⟨q, hq⟩ : ∃ q, wantsP ex s1 x = q := ⟨_, rfl⟩
    rw [hq] at HV ⊢
    clear hq
    go_wp2_with fail
    go_ret
    exact ⟨ret_bool HV.out.symm, HB3.out⟩
  · have HV : Hid (wants9 l (po * 4294967296 + g) x = false) := Lib.hid (by unfold wants9; rw [hat])
    clear hfd hat
    go_wp2_with fail
    go_ret
    exact ⟨ret_bool HV.out.symm, HB.out⟩
def iv (l : List Int) : List Value := l.map fun x => .int .i64 x
def ports9 (l : List Plc) (g x : Int) : List Int := (l.filter fun p => decide (p.g = g) && wantsP p.ex p.s x).map Plc.port
/-- A row of numbers of the call's own that is handed back. -/
def OutI (w : World) (e : Ending) (w' : World) (zs : List Int) : Prop := (∃ a c, e = .returned (.slice a zs.length c) ∧ w'.ownsRow w.heap.size 3 1 (.slice a zs.length c) zs.length (iv zs)) ∧ Below w.heap.size w w'
theorem infoInt : (Tryz.prog.info? 3).map (fun i => (i.zero, i.size, i.bytes)) = some (some (.int .i64 0), 1, 8) := by kernel_rfl
theorem ports_yes {l : List Plc} {g x : Int} {k : Nat} {p : Plc} (h : l[k]? = some p) (hg : p.g = g) (hw : wantsP p.ex p.s x = true) : ports9 (l.take (k + 1)) g x = ports9 (l.take k) g x ++ [p.port] := by
  unfold ports9; rw [takeH h, List.filter_append, List.map_append]; simp [hg, hw]
theorem ports_no {l : List Plc} {g x : Int} {k : Nat} {p : Plc} (h : l[k]? = some p) (hw : ¬ (p.g = g ∧ wantsP p.ex p.s x = true)) : ports9 (l.take (k + 1)) g x = ports9 (l.take k) g x := by
  unfold ports9; rw [takeH h, List.filter_append, List.map_append]
  have : (decide (p.g = g) && wantsP p.ex p.s x) = false := by
    rw [Bool.and_eq_false_iff]
    by_cases h1 : p.g = g
    · exact .inr (by simpa using fun h2 => hw ⟨h1, h2⟩)
    · exact .inl (decide_eq_false h1)
  simp [this]
theorem ports_len (l : List Plc) (g x : Int) (k : Nat) : (ports9 (l.take k) g x).length ≤ l.length := by
  unfold ports9; rw [List.length_map]; exact Nat.le_trans (List.length_filter_le _ _) (List.length_take_le' _ _)
theorem one_row (w : World) (x : Int) : ∀ j u, [Value.int .i64 x][j]? = some u → (w.alloc (.cells #[.int .i64 x] 3)).cell? ((⟨w.heap.size, 0, none⟩ : Addr).add j) = some u := by
  intro j u h
  match j with
  | 0 => simp at h; subst h; rw [add_flat]; exact cell_new w #[.int .i64 x] 3 0
  | j + 1 => simp at h
set_option maxRecDepth 100000 in
set_option maxHeartbeats 4000000 in
theorem dPorts (kp la lim : Int) (a : Option Addr) (n c : Nat) (l : List Plc) (g x : Int) (w : World) (hx : l.length = n) (hn : n ≤ 100000) (hH : Pls w a l) (hk : okW l) :
    Calls Tryz.prog 34 #[.agg #[.int .i64 kp, .int .i64 la, .int .i64 lim, .slice a n c], .int .u32 g, .int .u32 x] w fun e w' => OutI w e w' (ports9 l g x) := by
  obtain ⟨i0, hi, hz0, hz1, hz2⟩ := info_parts infoInt
  have HX := Lib.hid hx
  have HK := Lib.hid hk
  have HPL := Lib.hid (ports_len l g x)
  obtain ⟨w1, hw1⟩ : ∃ w1, w1 = w.alloc (.cells #[.int .i64 kp, .int .i64 la, .int .i64 lim, .slice a n c] 46) := ⟨_, rfl⟩
  obtain ⟨hv, hb, -⟩ := mkDbW w kp la lim a n c w1 hw1
  have HB := Lib.hid hb
  have V := Lib.hid hv
  have HH := Lib.hid (hH.below hb)
  clear hx hk hv hb hH
  go_enter Tryz.func34, Tryz.ntmps34
  obtain ⟨c0, c1, c2, c3, -⟩ := V.out.cells
  go_wp2_with fail
  rw [← hw1]
  clear hw1 c0 c1 c2 c3
  go_loopw [7, 13] (fun v7 v13 wr => ∃ (k : Nat) (a7 : Option Addr) (c7 : Nat), v7 = .slice a7 (ports9 (l.take k) g x).length c7 ∧ v13 = .int .i64 (k : Int) ∧ k ≤ n ∧ wr.ownsRow w1.heap.size 3 1 (.slice a7 (ports9 (l.take k) g x).length c7) (ports9 (l.take k) g x).length (iv (ports9 (l.take k) g x)) ∧
    Below w1.heap.size w1 wr) (fun _ v _ => n - (intOf v).toNat)
  case atStart => exact ⟨0, none, 0, by simp [ports9], rfl, by omega, by simpa [ports9, iv] using World.ownsRow_nil _ _ _ _, Below.refl _ _⟩
  case round =>
    obtain ⟨k, a7, c7, rfl, rfl, hk, ho, hB⟩ := hrel
    have HO := Lib.hid ho
    have HB1 := Lib.hid hB
    have hol : (ports9 (l.take k) g x).length ≤ 100000 := by have := HPL.out k; rw [HX.out] at this; omega
    clear ho hB
    by_cases hlt : k < n
    · obtain ⟨b, off, rfl, hc⟩ := HH.out.at (k := k) (by rw [HX.out]; exact hlt)
      obtain ⟨p, hfk⟩ : ∃ y, l[k]? = some y := ⟨_, List.getElem?_eq_getElem (by rw [HX.out]; exact hlt)⟩
      obtain ⟨hce, hpo⟩ := (hc k _ hfk).below HB1.out
      have HOK := Lib.hid (HK.out p (List.mem_of_getElem? hfk))
      have HFK := Lib.hid hfk
      clear hc hfk
      obtain ⟨po1, v1, v2, g1, ex, left, s1, a1, c1⟩ := p
      obtain ⟨n1, hn1⟩ : ∃ n1, s1.length = n1 := ⟨_, rfl⟩
      unfold PCs Plc.sl at hce
      simp only [hn1] at hce HOK
      obtain ⟨d0, d1, d2, d3, d4, d5, d6⟩ := hce
      have HN1 := Lib.hid hn1
      have HPO := Lib.hid hpo
      have hkz : (k : Int) < (n : Int) := by omega
      clear hn1 hpo
      by_cases hgg : g1 = g
      · have hgb : (g1 == g) = true := by simpa using hgg
        have HGG := Lib.hid hgg
        clear hgg
        go_wp2_with fail
        have hbn := bel1 wr (.cells #[.int .i64 po1, .int .i64 v1, .int .i64 v2, .int .u32 g1, .bool ex, .int .i64 left, .slice a1 n1 c1] 77)
        have PVn := PV.new wr po1 v1 v2 g1 ex left a1 n1 c1
        have HPV := Lib.hid PVn
        have HHn := Lib.hid (HPO.out.1.below hbn)
        have HBn := Lib.hid hbn
        clear hbn PVn
        generalize wr.alloc (.cells #[.int .i64 po1, .int .i64 v1, .int .i64 v2, .int .u32 g1, .bool ex, .int .i64 left, .slice a1 n1 c1] 77) = w5 at *
        refine (mWants g1 ex left a1 n1 c1 s1 x w5 HN1.out HOK.out.2.2 HHn.out HOK.out.1 HOK.out.2.1).mono ?_
        rintro e w6 ⟨rfl, hb⟩
        have HB6 := Lib.hid (HBn.out.trans (hb.mono HBn.out.size))
        replace HPV := Lib.hid (HPV.out.below hb HPV.out.lt)
        have HO6 := Lib.hid (own_grown HO.out HB6.out (Nat.le_refl _))
        clear hb d0 d1 d2 d3 d4 d5 d6 HBn HHn
        obtain ⟨q, hq⟩ : ∃ q, wantsP ex s1 x = q := ⟨_, rfl⟩
        rw [hq]
        have HQ := Lib.hid hq
        clear hq
        obtain ⟨d0, -⟩ := HPV.out.cells
        cases q
        · go_wp2_with fail
          go_roundw
          case rel =>
            have e := ports_no (x := x) (g := g) HFK.out (fun h => by rw [HQ.out] at h; cases h.2)
            exact ⟨k + 1, a7, c7, by rw [e], by go_num, by omega, by rw [e]; exact HO6.out, HB1.out.trans (HB6.out.mono HB1.out.size)⟩
          case measure => simp [intOf]; omega
        · have ORW := Lib.hid (one_row w6 po1)
          go_wp2_with ((refine wpList_app_cell rfl 66 3 i0 _ 1 8 Tryz.underlying66 hi hz0 hz1 hz2 rfl (by decide) (by omega) (.tmp 28) (.tmp 31) rfl w1.heap.size _ (ports9 (l.take k) g x).length (iv (ports9 (l.take k) g x)) rfl (HO6.out.alloc _) ⟨w6.heap.size, 0, none⟩ 1 [.int .i64 po1] rfl rfl ORW.out (by simp [Value.oneCell']) (by omega) (by have := HB.out.size; have := HB1.out.size; have := HB6.out.size; simp; omega) ?_; intro a' cap' w' hown hg))
          go_roundw
          case rel =>
            have e := ports_yes (x := x) (g := g) HFK.out HGG.out HQ.out
            have hbb : Below w1.heap.size w1 w' := HB1.out.trans ((HB6.out.mono HB1.out.size).trans (((Below.refl _ w6).alloc (by have := HB1.out.size; have := HB6.out.size; omega) _).trans (grown_below (HO6.out.alloc _) hg.out (by have := HB.out.size; have := HB1.out.size; have := HB6.out.size; simp; omega))))
            exact ⟨k + 1, a', cap', by rw [e, List.length_append]; rfl, by go_num, by omega, by rw [e, List.length_append]; simpa [iv] using hown.out, hbb⟩
          case measure => simp [intOf]; omega
      · have hgb : (g1 == g) = false := by simpa using hgg
        have HGG := Lib.hid hgg
        clear hgg
        go_wp2_with fail
        go_roundw
        case rel =>
          have e := ports_no (x := x) (g := g) HFK.out (fun h => HGG.out h.1)
          have hbn := bel1 wr (.cells #[.int .i64 po1, .int .i64 v1, .int .i64 v2, .int .u32 g1, .bool ex, .int .i64 left, .slice a1 n1 c1] 77)
          exact ⟨k + 1, a7, c7, by rw [e], by go_num, by omega, by rw [e]; exact HO.out.alloc _, HB1.out.trans (hbn.mono HB1.out.size)⟩
        case measure => simp [intOf]; omega
    · obtain rfl : k = n := by omega
      have htk : l.take k = l := List.take_of_length_le (by rw [HX.out]; exact Nat.le_refl _)
      have HO' := HO.out
      rw [htk] at HO' ⊢
      have HO2 := Lib.hid HO'
      clear HO HO' htk
      go_wp2_with fail
      go_ret
      exact ⟨⟨_, _, rfl, vown_le HO2.out HB.out.size⟩, HB.out.trans (HB1.out.mono HB.out.size)⟩
end Go.Proofs.YtiabbkjmgaemaaaGreat
