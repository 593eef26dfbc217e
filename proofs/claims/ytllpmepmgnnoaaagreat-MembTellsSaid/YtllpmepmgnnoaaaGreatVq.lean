/- Whether two are the same: the document's own answer. -/
import Derived.Test.YtllpmepmgnnoaaaGreatVp
namespace Go.Proofs.YtllpmepmgnnoaaaGreat
set_option linter.unusedVariables false
open Go.RowKit

theorem mk2s (w : World) (g : Int) (ex : Bool) (left : Int) (a : Option Addr) (n c : Nat) (g' : Int) (ex' : Bool) (left' : Int) (a' : Option Addr) (n' c' : Nat) (W : World)
    (hW : W = (w.alloc (.cells #[.int .u32 g, .bool ex, .int .i64 left, .slice a n c] 28)).alloc (.cells #[.int .u32 g', .bool ex', .int .i64 left', .slice a' n' c'] 28)) :
    MV W w.heap.size g ex left a n c ∧ MV W (w.heap.size + 1) g' ex' left' a' n' c' ∧ Below w.heap.size w W := by
  subst hW
  have e1 : (w.alloc (.cells #[.int .u32 g, .bool ex, .int .i64 left, .slice a n c] 28)).heap.size = w.heap.size + 1 := World.size_alloc _ _
  have v0 := MV.new w g ex left a n c
  have v2 := MV.new (w.alloc (.cells #[.int .u32 g, .bool ex, .int .i64 left, .slice a n c] 28)) g' ex' left' a' n' c'
  rw [e1] at v2
  exact ⟨v0.keep _, v2, ((Below.refl _ w).alloc (Nat.le_refl _) _).alloc (by rw [e1]; omega) _⟩
theorem heldNe (x1 x2 y1 y2 : Int) (w : World) : (binOp .neq 50 (.agg #[.int .u32 x1, .int .i64 x2]) (.agg #[.int .u32 y1, .int .i64 y2])).run Tryz.prog w = .ok (.bool (!(decide (x1 = y1) && decide (x2 = y2)))) w := by
  by_cases h1 : x1 = y1
  · by_cases h2 : x2 = y2
    · subst h1 h2
      have e1 : (x1 == x1) = true := by simp
      have e2 : (x2 == x2) = true := by simp
      go_simp
    · have e1 : (x1 == y1) = true := by simpa using h1
      have e2 : (x2 == y2) = false := by simpa using h2
      go_simp
  · have e1 : (x1 == y1) = false := by simpa using h1
    go_simp
theorem heldEq (x1 x2 y1 y2 : Int) (w : World) : (binOp .eql 50 (.agg #[.int .u32 x1, .int .i64 x2]) (.agg #[.int .u32 y1, .int .i64 y2])).run Tryz.prog w = .ok (.bool (decide (x1 = y1) && decide (x2 = y2))) w := by
  by_cases h1 : x1 = y1
  · by_cases h2 : x2 = y2
    · subst h1 h2
      have e1 : (x1 == x1) = true := by simp
      have e2 : (x2 == x2) = true := by simp
      go_simp
    · have e1 : (x1 == y1) = true := by simpa using h1
      have e2 : (x2 == y2) = false := by simpa using h2
      go_simp
  · have e1 : (x1 == y1) = false := by simpa using h1
    go_simp
set_option maxRecDepth 100000 in
set_option maxHeartbeats 16000000 in
theorem rSame8 (g : Int) (ex : Bool) (left : Int) (a : Option Addr) (n c : Nat) (s : List Hd) (g' : Int) (ex' : Bool) (left' : Int) (a' : Option Addr) (n' c' : Nat) (s' : List Hd) (w : World) (hx : s.length = n) (hx' : s'.length = n') (hm : n ≤ 9223372036854775807) (hm' : n' ≤ 9223372036854775807) (hH : Hs w a s) (hH' : Hs w a' s') :
    Calls Tryz.prog 10 #[.agg #[.int .u32 g, .bool ex, .int .i64 left, .slice a n c], .agg #[.int .u32 g', .bool ex', .int .i64 left', .slice a' n' c']] w fun e w' => e = .returned (.bool (decide (g = g' ∧ ex = ex' ∧ left = left' ∧ s = s'))) ∧ Below w.heap.size w w' := by
  have HX := Lib.hid hx
  have HX' := Lib.hid hx'
  have HH := Lib.hid hH
  have HH' := Lib.hid hH'
  clear hx hx' hH hH'
  obtain ⟨w2, hw2⟩ : ∃ w2, w2 = (w.alloc (.cells #[.int .u32 g, .bool ex, .int .i64 left, .slice a n c] 28)).alloc (.cells #[.int .u32 g', .bool ex', .int .i64 left', .slice a' n' c'] 28) := ⟨_, rfl⟩
  obtain ⟨v0, v1, hb⟩ := mk2s w g ex left a n c g' ex' left' a' n' c' w2 hw2
  have HB := Lib.hid hb
  have V0 := Lib.hid v0
  have V1 := Lib.hid v1
  clear v0 v1 hb
  obtain ⟨R, hR⟩ : ∃ R, decide (g = g' ∧ ex = ex' ∧ left = left' ∧ s = s') = R := ⟨_, rfl⟩
  rw [hR]
  go_enter Tryz.func10, Tryz.ntmps10
  by_cases e1 : g = g'
  · by_cases e2 : ex = ex'
    · by_cases e3 : left = left'
      · by_cases e4 : n = n'
        · have HYES : Hid (s = s' → R = true) := Lib.hid (fun h => by rw [← hR]; exact decide_eq_true ⟨e1, e2, e3, h⟩)
          have HNO : Hid (s ≠ s' → R = false) := Lib.hid (fun h => by rw [← hR]; exact decide_eq_false fun k => h k.2.2.2)
          clear hR
          subst e1 e2 e3 e4
          cases ex
          · go_wp2
            rw [← hw2]
            clear hw2
            go_loopw [5] (fun v5 wr => ∃ k : Nat, v5 = .int .i64 (k : Int) ∧ k ≤ n ∧ s.take k = s'.take k ∧ Below w.heap.size w wr ∧ wr.cell? ⟨w.heap.size, 3, none⟩ = some (.slice a n c) ∧ wr.cell? ⟨w.heap.size + 1, 3, none⟩ = some (.slice a' n c')) (fun v _ => n - (intOf v).toNat)
            case atStart => exact ⟨0, rfl, by omega, by simp, HB.out, V0.out.cells.2.2.2.1, V1.out.cells.2.2.2.1⟩
            case round =>
              clear V0 V1 HB
              obtain ⟨k, rfl, hk, hpre, hB, c3, d3⟩ := hrel
              have HP := Lib.hid hpre
              have HB := Lib.hid hB
              have C3 := Lib.hid c3
              have D3 := Lib.hid d3
              clear hpre hB
              by_cases hlt : k < n
              · obtain ⟨b, off, rfl, hc⟩ := HH.out.at (k := k) (by rw [HX.out]; exact hlt)
                obtain ⟨b', off', rfl, hc'⟩ := HH'.out.at (k := k) (by rw [HX'.out]; omega)
                obtain ⟨⟨x1, x2⟩, hfk⟩ : ∃ x, s[k]? = some x := ⟨_, List.getElem?_eq_getElem (by rw [HX.out]; exact hlt)⟩
                obtain ⟨⟨y1, y2⟩, hfk'⟩ : ∃ x, s'[k]? = some x := ⟨_, List.getElem?_eq_getElem (by rw [HX'.out]; omega)⟩
                obtain ⟨p0, p1⟩ := (hc k _ hfk).below HB.out
                obtain ⟨q0, q1⟩ := (hc' k _ hfk').below HB.out
                simp only at p0 p1 q0 q1
                have HK := Lib.hid hfk
                have HK' := Lib.hid hfk'
                have t3 : ∀ q, (wr.drewN q).cell? ⟨w.heap.size, 3, none⟩ = some (.slice (some ⟨b, off, none⟩) n c) := fun q => c3
                have t4 : ∀ q, (wr.drewN q).cell? ⟨w.heap.size + 1, 3, none⟩ = some (.slice (some ⟨b', off', none⟩) n c') := fun q => d3
                have r0 : ∀ q, (wr.drewN q).cell? ⟨b, off + k * 2, none⟩ = some (.int .u32 x1) := fun q => p0
                have r1 : ∀ q, (wr.drewN q).cell? ⟨b, off + k * 2 + 1, none⟩ = some (.int .i64 x2) := fun q => p1
                have r2 : ∀ q, (wr.drewN q).cell? ⟨b', off' + k * 2, none⟩ = some (.int .u32 y1) := fun q => q0
                have r3 : ∀ q, (wr.drewN q).cell? ⟨b', off' + k * 2 + 1, none⟩ = some (.int .i64 y2) := fun q => q1
                have hne := heldNe x1 x2 y1 y2
                have hkz : (k : Int) < (n : Int) := by omega
                have hkz' : (k : Int) < (n : Int) := by omega
                have k0 : (0 : Int) ≤ (k : Int) := by omega
                clear hc hc' hfk hfk'
                obtain ⟨q, hq⟩ : ∃ q, (!(decide (x1 = y1) && decide (x2 = y2))) = q := ⟨_, rfl⟩
                rw [hq] at hne
                have HQ := Lib.hid hq
                clear hq
                cases q
                · go_wp2
                  go_quiet (fail)
                  go_wp2
                  go_roundw
                  case rel =>
                    have hxy : (x1, x2) = (y1, y2) := by have := HQ.out; simp only [Bool.not_eq_false', Bool.and_eq_true, decide_eq_true_eq] at this; rw [this.1, this.2]
                    exact ⟨k + 1, by go_num, by omega, by rw [takeH HK.out, takeH HK'.out, HP.out, hxy], bdrawn HB.out _, C3.out, D3.out⟩
                  case measure => simp [intOf]; omega
                · have HE : Hid (R = false) := Lib.hid (HNO.out fun h => by
                    have h4 := HK.out
                    rw [h, HK'.out] at h4
                    have h5 := HQ.out
                    simp only [Option.some.injEq, Prod.mk.injEq] at h4
                    rw [h4.1, h4.2] at h5
                    simp at h5)
                  go_wp2
                  go_quiet (fail)
                  go_wp2
                  go_ret
                  exact ⟨ret_bool HE.out.symm, bdrawn HB.out _⟩
              · obtain rfl : k = n := by omega
                have hs : s = s' := by
                  have h := HP.out
                  rwa [List.take_of_length_le (by rw [HX.out]; exact Nat.le_refl _), List.take_of_length_le (by rw [HX'.out]; omega)] at h
                have HE := Lib.hid (HYES.out hs)
                clear hs
                go_wp2_with fail
                go_ret
                exact ⟨ret_bool HE.out.symm, HB.out⟩
          · go_wp2
            rw [← hw2]
            clear hw2
            go_loopw [5] (fun v5 wr => ∃ k : Nat, v5 = .int .i64 (k : Int) ∧ k ≤ n ∧ s.take k = s'.take k ∧ Below w.heap.size w wr ∧ wr.cell? ⟨w.heap.size, 3, none⟩ = some (.slice a n c) ∧ wr.cell? ⟨w.heap.size + 1, 3, none⟩ = some (.slice a' n c')) (fun v _ => n - (intOf v).toNat)
            case atStart => exact ⟨0, rfl, by omega, by simp, HB.out, V0.out.cells.2.2.2.1, V1.out.cells.2.2.2.1⟩
            case round =>
              clear V0 V1 HB
              obtain ⟨k, rfl, hk, hpre, hB, c3, d3⟩ := hrel
              have HP := Lib.hid hpre
              have HB := Lib.hid hB
              have C3 := Lib.hid c3
              have D3 := Lib.hid d3
              clear hpre hB
              by_cases hlt : k < n
              · obtain ⟨b, off, rfl, hc⟩ := HH.out.at (k := k) (by rw [HX.out]; exact hlt)
                obtain ⟨b', off', rfl, hc'⟩ := HH'.out.at (k := k) (by rw [HX'.out]; omega)
                obtain ⟨⟨x1, x2⟩, hfk⟩ : ∃ x, s[k]? = some x := ⟨_, List.getElem?_eq_getElem (by rw [HX.out]; exact hlt)⟩
                obtain ⟨⟨y1, y2⟩, hfk'⟩ : ∃ x, s'[k]? = some x := ⟨_, List.getElem?_eq_getElem (by rw [HX'.out]; omega)⟩
                obtain ⟨p0, p1⟩ := (hc k _ hfk).below HB.out
                obtain ⟨q0, q1⟩ := (hc' k _ hfk').below HB.out
                simp only at p0 p1 q0 q1
                have HK := Lib.hid hfk
                have HK' := Lib.hid hfk'
                have t3 : ∀ q, (wr.drewN q).cell? ⟨w.heap.size, 3, none⟩ = some (.slice (some ⟨b, off, none⟩) n c) := fun q => c3
                have t4 : ∀ q, (wr.drewN q).cell? ⟨w.heap.size + 1, 3, none⟩ = some (.slice (some ⟨b', off', none⟩) n c') := fun q => d3
                have r0 : ∀ q, (wr.drewN q).cell? ⟨b, off + k * 2, none⟩ = some (.int .u32 x1) := fun q => p0
                have r1 : ∀ q, (wr.drewN q).cell? ⟨b, off + k * 2 + 1, none⟩ = some (.int .i64 x2) := fun q => p1
                have r2 : ∀ q, (wr.drewN q).cell? ⟨b', off' + k * 2, none⟩ = some (.int .u32 y1) := fun q => q0
                have r3 : ∀ q, (wr.drewN q).cell? ⟨b', off' + k * 2 + 1, none⟩ = some (.int .i64 y2) := fun q => q1
                have hne := heldNe x1 x2 y1 y2
                have hkz : (k : Int) < (n : Int) := by omega
                have hkz' : (k : Int) < (n : Int) := by omega
                have k0 : (0 : Int) ≤ (k : Int) := by omega
                clear hc hc' hfk hfk'
                obtain ⟨q, hq⟩ : ∃ q, (!(decide (x1 = y1) && decide (x2 = y2))) = q := ⟨_, rfl⟩
                rw [hq] at hne
                have HQ := Lib.hid hq
                clear hq
                cases q
                · go_wp2
                  go_quiet (fail)
                  go_wp2
                  go_roundw
                  case rel =>
                    have hxy : (x1, x2) = (y1, y2) := by have := HQ.out; simp only [Bool.not_eq_false', Bool.and_eq_true, decide_eq_true_eq] at this; rw [this.1, this.2]
                    exact ⟨k + 1, by go_num, by omega, by rw [takeH HK.out, takeH HK'.out, HP.out, hxy], bdrawn HB.out _, C3.out, D3.out⟩
                  case measure => simp [intOf]; omega
                · have HE : Hid (R = false) := Lib.hid (HNO.out fun h => by
                    have h4 := HK.out
                    rw [h, HK'.out] at h4
                    have h5 := HQ.out
                    simp only [Option.some.injEq, Prod.mk.injEq] at h4
                    rw [h4.1, h4.2] at h5
                    simp at h5)
                  go_wp2
                  go_quiet (fail)
                  go_wp2
                  go_ret
                  exact ⟨ret_bool HE.out.symm, bdrawn HB.out _⟩
              · obtain rfl : k = n := by omega
                have hs : s = s' := by
                  have h := HP.out
                  rwa [List.take_of_length_le (by rw [HX.out]; exact Nat.le_refl _), List.take_of_length_le (by rw [HX'.out]; omega)] at h
                have HE := Lib.hid (HYES.out hs)
                clear hs
                go_wp2_with fail
                go_ret
                exact ⟨ret_bool HE.out.symm, HB.out⟩
        · have HE : Hid (R = false) := Lib.hid (by rw [← hR]; exact decide_eq_false fun h => e4 (by rw [← HX.out, ← HX'.out, h.2.2.2]))
          clear hR
          subst e1 e2 e3
          have e4' : ((n : Int) == (n' : Int)) = false := beq_eq_false_iff_ne.2 (by omega)
          clear e4
          cases ex
          all_goals
            go_wp2
            go_ret
            exact ⟨ret_bool HE.out.symm, hw2 ▸ HB.out⟩
      · have HE : Hid (R = false) := Lib.hid (by rw [← hR]; exact decide_eq_false fun h => e3 h.2.2.1)
        clear hR
        subst e1 e2
        have e3' : (left == left') = false := by simpa using e3
        clear e3
        cases ex
        all_goals
          go_wp2
          go_ret
          exact ⟨ret_bool HE.out.symm, hw2 ▸ HB.out⟩
    · have HE : Hid (R = false) := Lib.hid (by rw [← hR]; exact decide_eq_false fun h => e2 h.2.1)
      clear hR
      subst e1
      cases ex <;> cases ex'
      all_goals first
        | (exfalso; exact e2 rfl)
        | (go_wp2
           go_ret
           exact ⟨ret_bool HE.out.symm, hw2 ▸ HB.out⟩)
  · have HE : Hid (R = false) := Lib.hid (by rw [← hR]; exact decide_eq_false fun h => e1 h.1)
    clear hR
    have e1' : (g != g') = true := by simpa using e1
    clear e1
    go_wp2
    go_ret
    exact ⟨ret_bool HE.out.symm, hw2 ▸ HB.out⟩
end Go.Proofs.YtllpmepmgnnoaaaGreat
