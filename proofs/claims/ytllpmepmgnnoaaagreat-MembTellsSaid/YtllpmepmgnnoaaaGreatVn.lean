/- Wants, Some, and what comes of time. -/
import Derived.Test.YtllpmepmgnnoaaaGreatVl
namespace Go.Proofs.YtllpmepmgnnoaaaGreat
set_option linter.unusedVariables false
open Go.RowKit

set_option maxRecDepth 100000 in
set_option maxHeartbeats 4000000 in
/-- Where a source stands. -/
theorem lIdx (N : Nat) (x : Int) (a : Option Addr) (n c : Nat) (s : List Hd) (w : World) (hx : s.length = n) (hn : n ≤ 100000) (hH : Hs w a s) (hN : w.cell? ⟨N, 0, none⟩ = some (.int .u32 x)) :
    Calls Tryz.prog 36 #[.slice a n c, .func (.func 37) #[] #[.pointer (some ⟨N, 0, none⟩)]] w fun e w' =>
      (∃ r : Int, e = .returned (.int .i64 r) ∧ ((r = -1 ∧ x ∉ ad s) ∨ ∃ (k : Nat) (y : Hd), r = k ∧ s[k]? = some y ∧ y.1 = x)) ∧ Below w.heap.size w w' := by
  have HX := Lib.hid hx
  have HH := Lib.hid hH
  have HN := Lib.hid hN
  clear hx hH hN
  go_enter Tryz.func36, Tryz.ntmps36
  go_wp2
  go_loopw [8] (fun v wr => ∃ k : Nat, v = .int .i64 (k : Int) ∧ k ≤ n ∧ (∀ y ∈ s.take k, y.1 ≠ x) ∧ Below w.heap.size w wr) (fun v _ => n - (intOf v).toNat)
  case atStart => exact ⟨0, rfl, by omega, by simp, Below.refl _ _⟩
  case round =>
    obtain ⟨k, rfl, hk, hno, hB⟩ := hrel
    have HNO := Lib.hid hno
    have HB := Lib.hid hB
    clear hno hB
    by_cases hlt : k < n
    · obtain ⟨b, off, rfl, hc⟩ := HH.out.at (k := k) (by rw [HX.out]; exact hlt)
      obtain ⟨⟨x1, x2⟩, hfk⟩ : ∃ y, s[k]? = some y := ⟨_, List.getElem?_eq_getElem (by rw [HX.out]; exact hlt)⟩
      obtain ⟨d0, d1⟩ := (hc k _ hfk).below HB.out
      simp only at d0 d1
      have HFK := Lib.hid hfk
      have hkz : (k : Int) < (n : Int) := by omega
      clear hc hfk
      go_wp2_with fail
      refine (cWants N x (x1, x2) wr ((HB.out.cell (cell_lt HN.out)).trans HN.out)).mono ?_
      rintro e w1 ⟨rfl, hb1⟩
      have HB1 := Lib.hid (HB.out.trans (hb1.mono HB.out.size))
      clear hb1 d0 d1
      obtain ⟨q, hq⟩ : ∃ q, (((x1, x2) : Hd).1 == x) = q := ⟨_, rfl⟩
      rw [hq]
      have HQ := Lib.hid hq
      clear hq
      cases q
      · go_wp2_with fail
        go_roundw
        case rel =>
          refine ⟨k + 1, by go_num, by omega, ?_, HB1.out⟩
          rw [takeH HFK.out]
          intro y hy
          rcases List.mem_append.1 hy with h | h
          · exact HNO.out y h
          · obtain rfl : y = (x1, x2) := by simpa using h
            exact fun e => by have := HQ.out; simp only at e; subst e; simp at this
        case measure => simp [intOf]; omega
      · go_wp2_with fail
        go_ret
        exact ⟨⟨k, rfl, .inr ⟨k, (x1, x2), rfl, HFK.out, by simpa using HQ.out⟩⟩, HB1.out⟩
    · obtain rfl : k = n := by omega
      go_wp2_with fail
      go_ret
      refine ⟨⟨-1, rfl, .inl ⟨rfl, fun hm => ?_⟩⟩, HB.out⟩
      have h1 := HNO.out
      rw [List.take_of_length_le (by rw [HX.out]; exact Nat.le_refl _)] at h1
      obtain ⟨t, ht⟩ := ad_mem.1 hm
      exact h1 _ ht rfl
/-- Is a source wanted? -/
def wantsP (ex : Bool) (s : List Hd) (x : Int) : Bool := if 0 ≤ lf s x then (!ex || decide (0 < lf s x)) else ex
theorem memb_new (w : World) (v0 v1 v2 v3 : Value) (x : Value) : ∀ W, Below ((w.alloc (.cells #[v0, v1, v2, v3] 28)).alloc (.cells #[x] 25)).heap.size ((w.alloc (.cells #[v0, v1, v2, v3] 28)).alloc (.cells #[x] 25)) W →
    (W.cell? ⟨w.heap.size, 0, none⟩ = some v0 ∧ W.cell? ⟨w.heap.size, 1, none⟩ = some v1 ∧ W.cell? ⟨w.heap.size, 2, none⟩ = some v2 ∧ W.cell? ⟨w.heap.size, 3, none⟩ = some v3) ∧ W.cell? ⟨w.heap.size + 1, 0, none⟩ = some x := by
  intro W hb
  have e1 : (w.alloc (.cells #[v0, v1, v2, v3] 28)).heap.size = w.heap.size + 1 := World.size_alloc _ _
  have h1 := v_blk (Go.Deep.blk_alloc_new w (.cells #[v0, v1, v2, v3] 28)) (.cells #[x] 25)
  have h2 := Go.Deep.blk_alloc_new (w.alloc (.cells #[v0, v1, v2, v3] 28)) (.cells #[x] 25)
  rw [e1] at h2
  have k1 := (hb.block _ (Array.getElem?_eq_some_iff.1 h1).1).trans h1
  have k2 := (hb.block _ (Array.getElem?_eq_some_iff.1 h2).1).trans h2
  exact ⟨⟨by simp only [World.cell?, k1]; rfl, by simp only [World.cell?, k1]; rfl, by simp only [World.cell?, k1]; rfl, by simp only [World.cell?, k1]; rfl⟩, by simp only [World.cell?, k2]; rfl⟩
set_option maxRecDepth 100000 in
set_option maxHeartbeats 4000000 in
theorem mWants (g : Int) (ex : Bool) (left : Int) (a : Option Addr) (n c : Nat) (s : List Hd) (x : Int) (w : World) (hx : s.length = n) (hn : n ≤ 100000) (hH : Hs w a s) (hi : Inc (ad s)) (hnn : NN s) :
    Calls Tryz.prog 15 #[.agg #[.int .u32 g, .bool ex, .int .i64 left, .slice a n c], .int .u32 x] w fun e w' => e = .returned (.bool (wantsP ex s x)) ∧ Below w.heap.size w w' := by
  have HX := Lib.hid hx
  have HH := Lib.hid hH
  have HI := Lib.hid hi
  have HNN := Lib.hid hnn
  clear hx hH hi hnn
  go_enter Tryz.func15, Tryz.ntmps15
  go_wp2_with fail
  have hm := memb_new w (.int .u32 g) (.bool ex) (.int .i64 left) (.slice a n c) (.int .u32 x)
  have hb2 := bel2 w (.cells #[.int .u32 g, .bool ex, .int .i64 left, .slice a n c] 28) (.cells #[.int .u32 x] 25)
  have HB2 := Lib.hid hb2
  have HM := Lib.hid hm
  clear hm hb2
  generalize (w.alloc (.cells #[.int .u32 g, .bool ex, .int .i64 left, .slice a n c] 28)).alloc (.cells #[.int .u32 x] 25) = w2 at *
  refine (lIdx (w.heap.size + 1) x a n c s w2 HX.out hn (HH.out.below HB2.out) (HM.out w2 (Below.refl _ _)).2).mono ?_
  rintro e w3 ⟨⟨r, rfl, hr⟩, hb3⟩
  obtain ⟨⟨c0, c1, c2, c3⟩, -⟩ := HM.out w3 hb3
  have HB3 := Lib.hid (HB2.out.trans (hb3.mono HB2.out.size))
  have HH3 := Lib.hid (HH.out.below HB3.out)
  clear hb3
  rcases hr with ⟨rfl, hno⟩ | ⟨k, y, rfl, hk, rfl⟩
  · have HV : Hid (wantsP ex s x = ex) := Lib.hid (by unfold wantsP; rw [lf_none hno]; simp)
    clear hno
    go_wp2_with fail
    go_ret
    exact ⟨by rw [HV.out]; rfl, HB3.out⟩
  · obtain ⟨y1, y2⟩ := y
    have hlf : lf s y1 = y2 := lf_of HI.out (List.mem_of_getElem? hk)
    have h0 : 0 ≤ y2 := HNN.out _ (List.mem_of_getElem? hk)
    have HV : Hid (wantsP ex s y1 = (!ex || decide (0 < y2))) := Lib.hid (by unfold wantsP; rw [hlf, if_pos h0])
    have hkn : k < n := by rw [← HX.out]; exact (List.getElem?_eq_some_iff.1 hk).1
    obtain ⟨b, off, rfl, hc⟩ := HH3.out.at (k := k) (by rw [HX.out]; exact hkn)
    obtain ⟨d0, d1⟩ := hc k _ hk
    simp only at d0 d1
    have hkz : (k : Int) < (n : Int) := by omega
    have hk0 : (0 : Int) ≤ (k : Int) := by omega
    have hk1 : ¬ ((k : Int) < 0) := by omega
    clear hc hk hlf h0
    cases ex
    · go_wp2_with fail
      go_ret
      exact ⟨by rw [HV.out]; rfl, HB3.out⟩
    · go_wp2_with fail
      go_ret
      exact ⟨by rw [HV.out]; rfl, HB3.out⟩
theorem mSome (g : Int) (ex : Bool) (left : Int) (a : Option Addr) (n c : Nat) (w : World) :
    Calls Tryz.prog 17 #[.agg #[.int .u32 g, .bool ex, .int .i64 left, .slice a n c]] w fun e w' => e = .returned (.bool (ex || decide (0 < n))) ∧ Below w.heap.size w w' := by
  have h1 : decide ((0 : Int) < (n : Int)) = decide (0 < n) := decide_eq_decide.2 (by omega)
  have H1 := Lib.hid h1
  clear h1
  cases ex
  · go_enter Tryz.func17, Tryz.ntmps17
    go_wp2
    go_ret
    exact ⟨by rw [Bool.false_or, ← H1.out]; simp, bel1 w _⟩
  · go_enter Tryz.func17, Tryz.ntmps17
    go_wp2
    go_ret
    exact ⟨rfl, bel1 w _⟩
theorem vwrap {x : Int} (h0 : -9223372036854775808 ≤ x) (h1 : x ≤ 9223372036854775807) : IntKind.i64.wrap x = x := by
  simp [IntKind.wrap, IntKind.bits, IntKind.signed]; omega
theorem mLessT (x y : Int) (w : World) (h0 : -9223372036854775808 ≤ x - y) (h1 : x - y ≤ 9223372036854775807) :
    Calls Tryz.prog 39 #[.int .i64 x, .int .i64 y] w fun e w' => e = .returned (.int .i64 (max (x - y) 0)) ∧ w' = w := by
  have hw := vwrap h0 h1
  clear h0 h1
  go_enter Tryz.func39, Tryz.ntmps39
  go_wp2
  go_ret
  exact ⟨rfl, rfl⟩
end Go.Proofs.YtllpmepmgnnoaaaGreat
