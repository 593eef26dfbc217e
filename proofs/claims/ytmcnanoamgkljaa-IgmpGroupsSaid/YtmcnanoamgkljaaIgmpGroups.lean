/- The law IgmpGroups: every call returns true, and its arguments read behind the call as before it. Condition: none but the row's own. -/
import Derived.Test.YtmcnanoamgkljaaQ12
namespace Go.Proofs.Ytmcnanoamgkljaa.igmpGroups
set_option linter.unusedVariables false
open Go.ChangeShapes Go.WideShapes Go.ChangeAt Go.RowKit
open Go.ChangeMaps (open_string shut_string)

theorem nils (w : World) (m : Msg) (hs : m.srcs = []) (hr : m.recs = []) (hk : 0 ≤ m.kind ∧ m.kind ≤ 255) (hv : -9223372036854775808 ≤ m.ver ∧ m.ver ≤ 9223372036854775807) (hc : 0 ≤ m.code ∧ m.code ≤ 255) (hg : 0 ≤ m.grp ∧ m.grp ≤ 4294967295) (h5 : 0 ≤ m.rob ∧ m.rob ≤ 255) (h6 : 0 ≤ m.every ∧ m.every ≤ 255) : Ms w m none none := by
  refine ⟨?_, ?_, hk, hv, hc, hg, h5, h6, ?_, ?_⟩
  · rw [hs]; exact As.nil _ _
  · rw [hr]; exact Rs.nil _ _
  · rw [hs]; simp
  · rw [hr]; simp
theorem r18 (g : Int) : right ⟨18, 0, 0, g, false, 0, 0, [], []⟩ = asked g := by simp [right, bare]
theorem r23 (g : Int) : right ⟨23, 0, 0, g, false, 0, 0, [], []⟩ = asked g := by simp [right, bare]
theorem r17 (g : Int) : right ⟨17, 3, 0, g, false, 0, 0, [], []⟩ = (asked g || (g == 0)) := by simp [right]
theorem r34 (kd g : Int) : right ⟨34, 0, 0, 0, false, 0, 0, [], [⟨kd, g, []⟩]⟩ = (decide (1 ≤ kd) && decide (kd ≤ 6) && asked g) := by simp [right, bare, okL, okR]
theorem msR (w : World) (g kd : Int) (hg : 0 ≤ g ∧ g ≤ 4294967295) (hk : 0 ≤ kd ∧ kd ≤ 255) :
    Ms (w.alloc (.cells #[.int .u8 kd, .int .u32 g, .slice none 0 0] 44)) ⟨34, 0, 0, 0, false, 0, 0, [], [⟨kd, g, []⟩]⟩ none (some ⟨w.heap.size, 0, none⟩) := by
  refine ⟨As.nil _ _, .inr ⟨w.heap.size, 0, rfl, ?_⟩, by simp [Msg.ok]⟩
  intro k r hkr
  match k with
  | 0 =>
    simp at hkr
    subst hkr
    exact ⟨none, 0, cell_new w _ _ 0, cell_new w _ _ 1, cell_new w _ _ 2, As.nil _ _, hk, hg, by simp⟩
  | k + 1 => simp at hkr
set_option maxRecDepth 100000 in
set_option maxHeartbeats 4000000 in
theorem coreT1 (w : World) (g : Int) (hg : 0 ≤ g ∧ g ≤ 4294967295) (kd : Int) (hk : 0 ≤ kd ∧ kd ≤ 255) (hA : asked g = true) (k1 : kd < 1) (hC : right ⟨34, 0, 0, 0, false, 0, 0, [], [⟨kd, g, []⟩]⟩ = false) (hD : right ⟨17, 3, 0, g, false, 0, 0, [], []⟩ = true) :
    Calls Try.prog 9 #[.int .u32 g, .int .u8 kd] w fun e w' => e = .returned (.bool true) ∧ Below w.heap.size w w' := by
  have HG := Lib.hid hg
  have HK := Lib.hid hk
  have HA := Lib.hid hA
  have HC := Lib.hid hC
  have HD := Lib.hid hD
  clear hA hC hD hg hk
  go_enter Try.func9, Try.ntmps9
  go_wp2_with fail
  refine (iShown _).mono ?_
  rintro e w1 ⟨rfl, hb1⟩
  have HB1 := Lib.hid hb1
  clear hb1
  go_wp2_with fail
  refine (rAsked g _).mono ?_
  rintro e w2 ⟨rfl, rfl⟩
  rw [HA.out]
  go_wp2_with fail
  refine (gRight ⟨18, 0, 0, g, false, 0, 0, [], []⟩ none none 0 0 _ (nils _ _ rfl rfl (by simp) (by simp) (by simp) HG.out (by simp) (by simp))).mono ?_
  rintro e w3 ⟨rfl, hb3⟩
  rw [r18, HA.out]
  have HB3 := Lib.hid (HB1.out.trans (hb3.mono HB1.out.size))
  clear hb3
  go_wp2_with fail
  refine (gRight ⟨23, 0, 0, g, false, 0, 0, [], []⟩ none none 0 0 _ (nils _ _ rfl rfl (by simp) (by simp) (by simp) HG.out (by simp) (by simp))).mono ?_
  rintro e w4 ⟨rfl, hb4⟩
  rw [r23, HA.out]
  have HB4 := Lib.hid (HB3.out.trans (hb4.mono HB3.out.size))
  clear hb4
  go_wp2_with fail
  refine (gRight ⟨34, 0, 0, 0, false, 0, 0, [], [⟨kd, g, []⟩]⟩ none (some ⟨w4.heap.size, 0, none⟩) 0 1 _ (msR w4 g kd HG.out HK.out)).mono ?_
  rintro e w5 ⟨rfl, hb5⟩
  rw [HC.out]
  have HB5 := Lib.hid (HB4.out.trans (((bel1 w4 _).trans (hb5.mono (bel1 w4 _).size)).mono HB4.out.size))
  clear hb5
  go_wp2_with fail
  refine (gRight ⟨17, 3, 0, g, false, 0, 0, [], []⟩ none none 0 0 _ (nils _ _ rfl rfl (by simp) (by simp) (by simp) HG.out (by simp) (by simp))).mono ?_
  rintro e w6 ⟨rfl, hb6⟩
  rw [HD.out]
  have HB6 := Lib.hid (HB5.out.trans (hb6.mono HB5.out.size))
  clear hb6
  go_wp2
  go_ret
  exact ⟨rfl, HB6.out⟩
set_option maxRecDepth 100000 in
set_option maxHeartbeats 4000000 in
theorem coreT2 (w : World) (g : Int) (hg : 0 ≤ g ∧ g ≤ 4294967295) (kd : Int) (hk : 0 ≤ kd ∧ kd ≤ 255) (hA : asked g = true) (k1 : 1 ≤ kd) (k6 : kd ≤ 6) (hC : right ⟨34, 0, 0, 0, false, 0, 0, [], [⟨kd, g, []⟩]⟩ = true) (hD : right ⟨17, 3, 0, g, false, 0, 0, [], []⟩ = true) :
    Calls Try.prog 9 #[.int .u32 g, .int .u8 kd] w fun e w' => e = .returned (.bool true) ∧ Below w.heap.size w w' := by
  have HG := Lib.hid hg
  have HK := Lib.hid hk
  have HA := Lib.hid hA
  have HC := Lib.hid hC
  have HD := Lib.hid hD
  clear hA hC hD hg hk
  go_enter Try.func9, Try.ntmps9
  go_wp2_with fail
  refine (iShown _).mono ?_
  rintro e w1 ⟨rfl, hb1⟩
  have HB1 := Lib.hid hb1
  clear hb1
  go_wp2_with fail
  refine (rAsked g _).mono ?_
  rintro e w2 ⟨rfl, rfl⟩
  rw [HA.out]
  go_wp2_with fail
  refine (gRight ⟨18, 0, 0, g, false, 0, 0, [], []⟩ none none 0 0 _ (nils _ _ rfl rfl (by simp) (by simp) (by simp) HG.out (by simp) (by simp))).mono ?_
  rintro e w3 ⟨rfl, hb3⟩
  rw [r18, HA.out]
  have HB3 := Lib.hid (HB1.out.trans (hb3.mono HB1.out.size))
  clear hb3
  go_wp2_with fail
  refine (gRight ⟨23, 0, 0, g, false, 0, 0, [], []⟩ none none 0 0 _ (nils _ _ rfl rfl (by simp) (by simp) (by simp) HG.out (by simp) (by simp))).mono ?_
  rintro e w4 ⟨rfl, hb4⟩
  rw [r23, HA.out]
  have HB4 := Lib.hid (HB3.out.trans (hb4.mono HB3.out.size))
  clear hb4
  go_wp2_with fail
  refine (gRight ⟨34, 0, 0, 0, false, 0, 0, [], [⟨kd, g, []⟩]⟩ none (some ⟨w4.heap.size, 0, none⟩) 0 1 _ (msR w4 g kd HG.out HK.out)).mono ?_
  rintro e w5 ⟨rfl, hb5⟩
  rw [HC.out]
  have HB5 := Lib.hid (HB4.out.trans (((bel1 w4 _).trans (hb5.mono (bel1 w4 _).size)).mono HB4.out.size))
  clear hb5
  go_wp2_with fail
  refine (gRight ⟨17, 3, 0, g, false, 0, 0, [], []⟩ none none 0 0 _ (nils _ _ rfl rfl (by simp) (by simp) (by simp) HG.out (by simp) (by simp))).mono ?_
  rintro e w6 ⟨rfl, hb6⟩
  rw [HD.out]
  have HB6 := Lib.hid (HB5.out.trans (hb6.mono HB5.out.size))
  clear hb6
  go_wp2
  go_ret
  exact ⟨rfl, HB6.out⟩
set_option maxRecDepth 100000 in
set_option maxHeartbeats 4000000 in
theorem coreT3 (w : World) (g : Int) (hg : 0 ≤ g ∧ g ≤ 4294967295) (kd : Int) (hk : 0 ≤ kd ∧ kd ≤ 255) (hA : asked g = true) (k1 : 1 ≤ kd) (k6 : ¬ kd ≤ 6) (hC : right ⟨34, 0, 0, 0, false, 0, 0, [], [⟨kd, g, []⟩]⟩ = false) (hD : right ⟨17, 3, 0, g, false, 0, 0, [], []⟩ = true) :
    Calls Try.prog 9 #[.int .u32 g, .int .u8 kd] w fun e w' => e = .returned (.bool true) ∧ Below w.heap.size w w' := by
  have HG := Lib.hid hg
  have HK := Lib.hid hk
  have HA := Lib.hid hA
  have HC := Lib.hid hC
  have HD := Lib.hid hD
  clear hA hC hD hg hk
  go_enter Try.func9, Try.ntmps9
  go_wp2_with fail
  refine (iShown _).mono ?_
  rintro e w1 ⟨rfl, hb1⟩
  have HB1 := Lib.hid hb1
  clear hb1
  go_wp2_with fail
  refine (rAsked g _).mono ?_
  rintro e w2 ⟨rfl, rfl⟩
  rw [HA.out]
  go_wp2_with fail
  refine (gRight ⟨18, 0, 0, g, false, 0, 0, [], []⟩ none none 0 0 _ (nils _ _ rfl rfl (by simp) (by simp) (by simp) HG.out (by simp) (by simp))).mono ?_
  rintro e w3 ⟨rfl, hb3⟩
  rw [r18, HA.out]
  have HB3 := Lib.hid (HB1.out.trans (hb3.mono HB1.out.size))
  clear hb3
  go_wp2_with fail
  refine (gRight ⟨23, 0, 0, g, false, 0, 0, [], []⟩ none none 0 0 _ (nils _ _ rfl rfl (by simp) (by simp) (by simp) HG.out (by simp) (by simp))).mono ?_
  rintro e w4 ⟨rfl, hb4⟩
  rw [r23, HA.out]
  have HB4 := Lib.hid (HB3.out.trans (hb4.mono HB3.out.size))
  clear hb4
  go_wp2_with fail
  refine (gRight ⟨34, 0, 0, 0, false, 0, 0, [], [⟨kd, g, []⟩]⟩ none (some ⟨w4.heap.size, 0, none⟩) 0 1 _ (msR w4 g kd HG.out HK.out)).mono ?_
  rintro e w5 ⟨rfl, hb5⟩
  rw [HC.out]
  have HB5 := Lib.hid (HB4.out.trans (((bel1 w4 _).trans (hb5.mono (bel1 w4 _).size)).mono HB4.out.size))
  clear hb5
  go_wp2_with fail
  refine (gRight ⟨17, 3, 0, g, false, 0, 0, [], []⟩ none none 0 0 _ (nils _ _ rfl rfl (by simp) (by simp) (by simp) HG.out (by simp) (by simp))).mono ?_
  rintro e w6 ⟨rfl, hb6⟩
  rw [HD.out]
  have HB6 := Lib.hid (HB5.out.trans (hb6.mono HB5.out.size))
  clear hb6
  go_wp2
  go_ret
  exact ⟨ret_bool (show (!decide (kd ≤ 6)) = true by rw [decide_eq_false (show ¬ kd ≤ 6 by omega)]; rfl), HB6.out⟩
set_option maxRecDepth 100000 in
set_option maxHeartbeats 4000000 in
theorem coreF0 (w : World) (g : Int) (hg : 0 ≤ g ∧ g ≤ 4294967295) (kd : Int) (hk : 0 ≤ kd ∧ kd ≤ 255) (hA : asked g = false) (g0 : (g == 0) = true) (hC : right ⟨34, 0, 0, 0, false, 0, 0, [], [⟨kd, g, []⟩]⟩ = false) (hD : right ⟨17, 3, 0, g, false, 0, 0, [], []⟩ = true) :
    Calls Try.prog 9 #[.int .u32 g, .int .u8 kd] w fun e w' => e = .returned (.bool true) ∧ Below w.heap.size w w' := by
  have HG := Lib.hid hg
  have HK := Lib.hid hk
  have HA := Lib.hid hA
  have HC := Lib.hid hC
  have HD := Lib.hid hD
  clear hA hC hD hg hk
  go_enter Try.func9, Try.ntmps9
  go_wp2_with fail
  refine (iShown _).mono ?_
  rintro e w1 ⟨rfl, hb1⟩
  have HB1 := Lib.hid hb1
  clear hb1
  go_wp2_with fail
  refine (rAsked g _).mono ?_
  rintro e w2 ⟨rfl, rfl⟩
  rw [HA.out]
  go_wp2_with fail
  refine (gRight ⟨18, 0, 0, g, false, 0, 0, [], []⟩ none none 0 0 _ (nils _ _ rfl rfl (by simp) (by simp) (by simp) HG.out (by simp) (by simp))).mono ?_
  rintro e w3 ⟨rfl, hb3⟩
  rw [r18, HA.out]
  have HB3 := Lib.hid (HB1.out.trans (hb3.mono HB1.out.size))
  clear hb3
  go_wp2_with fail
  refine (gRight ⟨23, 0, 0, g, false, 0, 0, [], []⟩ none none 0 0 _ (nils _ _ rfl rfl (by simp) (by simp) (by simp) HG.out (by simp) (by simp))).mono ?_
  rintro e w4 ⟨rfl, hb4⟩
  rw [r23, HA.out]
  have HB4 := Lib.hid (HB3.out.trans (hb4.mono HB3.out.size))
  clear hb4
  go_wp2_with fail
  refine (gRight ⟨34, 0, 0, 0, false, 0, 0, [], [⟨kd, g, []⟩]⟩ none (some ⟨w4.heap.size, 0, none⟩) 0 1 _ (msR w4 g kd HG.out HK.out)).mono ?_
  rintro e w5 ⟨rfl, hb5⟩
  rw [HC.out]
  have HB5 := Lib.hid (HB4.out.trans (((bel1 w4 _).trans (hb5.mono (bel1 w4 _).size)).mono HB4.out.size))
  clear hb5
  go_wp2_with fail
  refine (gRight ⟨17, 3, 0, g, false, 0, 0, [], []⟩ none none 0 0 _ (nils _ _ rfl rfl (by simp) (by simp) (by simp) HG.out (by simp) (by simp))).mono ?_
  rintro e w6 ⟨rfl, hb6⟩
  rw [HD.out]
  have HB6 := Lib.hid (HB5.out.trans (hb6.mono HB5.out.size))
  clear hb6
  go_wp2
  go_ret
  exact ⟨rfl, HB6.out⟩
set_option maxRecDepth 100000 in
set_option maxHeartbeats 4000000 in
theorem coreF1 (w : World) (g : Int) (hg : 0 ≤ g ∧ g ≤ 4294967295) (kd : Int) (hk : 0 ≤ kd ∧ kd ≤ 255) (hA : asked g = false) (g0 : (g == 0) = false) (hC : right ⟨34, 0, 0, 0, false, 0, 0, [], [⟨kd, g, []⟩]⟩ = false) (hD : right ⟨17, 3, 0, g, false, 0, 0, [], []⟩ = false) :
    Calls Try.prog 9 #[.int .u32 g, .int .u8 kd] w fun e w' => e = .returned (.bool true) ∧ Below w.heap.size w w' := by
  have HG := Lib.hid hg
  have HK := Lib.hid hk
  have HA := Lib.hid hA
  have HC := Lib.hid hC
  have HD := Lib.hid hD
  clear hA hC hD hg hk
  go_enter Try.func9, Try.ntmps9
  go_wp2_with fail
  refine (iShown _).mono ?_
  rintro e w1 ⟨rfl, hb1⟩
  have HB1 := Lib.hid hb1
  clear hb1
  go_wp2_with fail
  refine (rAsked g _).mono ?_
  rintro e w2 ⟨rfl, rfl⟩
  rw [HA.out]
  go_wp2_with fail
  refine (gRight ⟨18, 0, 0, g, false, 0, 0, [], []⟩ none none 0 0 _ (nils _ _ rfl rfl (by simp) (by simp) (by simp) HG.out (by simp) (by simp))).mono ?_
  rintro e w3 ⟨rfl, hb3⟩
  rw [r18, HA.out]
  have HB3 := Lib.hid (HB1.out.trans (hb3.mono HB1.out.size))
  clear hb3
  go_wp2_with fail
  refine (gRight ⟨23, 0, 0, g, false, 0, 0, [], []⟩ none none 0 0 _ (nils _ _ rfl rfl (by simp) (by simp) (by simp) HG.out (by simp) (by simp))).mono ?_
  rintro e w4 ⟨rfl, hb4⟩
  rw [r23, HA.out]
  have HB4 := Lib.hid (HB3.out.trans (hb4.mono HB3.out.size))
  clear hb4
  go_wp2_with fail
  refine (gRight ⟨34, 0, 0, 0, false, 0, 0, [], [⟨kd, g, []⟩]⟩ none (some ⟨w4.heap.size, 0, none⟩) 0 1 _ (msR w4 g kd HG.out HK.out)).mono ?_
  rintro e w5 ⟨rfl, hb5⟩
  rw [HC.out]
  have HB5 := Lib.hid (HB4.out.trans (((bel1 w4 _).trans (hb5.mono (bel1 w4 _).size)).mono HB4.out.size))
  clear hb5
  go_wp2_with fail
  refine (gRight ⟨17, 3, 0, g, false, 0, 0, [], []⟩ none none 0 0 _ (nils _ _ rfl rfl (by simp) (by simp) (by simp) HG.out (by simp) (by simp))).mono ?_
  rintro e w6 ⟨rfl, hb6⟩
  rw [HD.out]
  have HB6 := Lib.hid (HB5.out.trans (hb6.mono HB5.out.size))
  clear hb6
  go_wp2
  go_ret
  exact ⟨rfl, HB6.out⟩
theorem walk (w : World) (g : Int) (hg : 0 ≤ g ∧ g ≤ 4294967295) (kd : Int) (hk : 0 ≤ kd ∧ kd ≤ 255) :
    Calls Try.prog 9 #[.int .u32 g, .int .u8 kd] w fun e w' => e = .returned (.bool true) ∧ Below w.heap.size w w' := by
  cases hA : asked g with
  | true =>
    have hD : right ⟨17, 3, 0, g, false, 0, 0, [], []⟩ = true := by rw [r17, hA]; rfl
    by_cases k1 : 1 ≤ kd
    · by_cases k6 : kd ≤ 6
      · exact coreT2 w g hg kd hk hA k1 k6 (by rw [r34, hA]; simp [k1, k6]) hD
      · exact coreT3 w g hg kd hk hA k1 k6 (by rw [r34, hA]; simp [k1, k6]) hD
    · exact coreT1 w g hg kd hk hA (by omega) (by rw [r34, hA]; simp [k1]) hD
  | false =>
    cases g0 : (g == 0) with
    | true => exact coreF0 w g hg kd hk hA g0 (by rw [r34, hA]; simp) (by rw [r17, hA, g0]; rfl)
    | false => exact coreF1 w g hg kd hk hA g0 (by rw [r34, hA]; simp) (by rw [r17, hA, g0]; rfl)

theorem contract (H : Type) (enc : TypeId × Value → H) (W : World) (base : Nat) (args : Array Value) (ds gs : List (DataW H)) (before : List MemPlace)
    (hval : ∀ (j : Nat) t v, Try.f9.params[j]? = some t → args[j]? = some v → Value.okWide Try.prog W .any base t v)
    (hW : DataW.Whole enc Try.prog Try.f9.params.toList Rows.igmpGroupsSpec.vars false W args.toList ds gs before) :
    Calls Try.prog 9 args W fun e W' => ∃ v, e = .returned v ∧ Rows.igmpGroupsSpec.post enc Try.prog Try.f9 false true false false W args v W' := by
  have hW' := hW
  obtain ⟨p, q, hA0, hV, rfl, hfz, hnd⟩ := hW
  have hA : DataW.TrodAll enc Try.prog W 0 (fun _ => true) true Try.f9.params.toList args.toList ds p := hA0
  rw [Try.params9] at hA hval
  obtain ⟨v0, vs0, d0, ds0, p0, q0, hargs, rfl, rfl, h0, r0⟩ := trodAll_cons hA
  obtain ⟨v1, vs1, d1, ds1, p1, q1, rfl, rfl, rfl, h1, r1⟩ := trodAll_cons r0
  obtain ⟨rfl, rfl, rfl⟩ := trodAll_nil r1
  obtain rfl : args = #[v0, v1] := by cases args; simp_all
  obtain ⟨rfl, rfl⟩ := trodVars_none hV
  have k0 := h0
  have lt0 : ∀ x ∈ p0, x.block < W.heap.size := by obtain ⟨m, hm⟩ := k0; exact DataW.trod_lt m _ _ _ hm
  have k1 := h1
  have lt1 : ∀ x ∈ p1, x.block < W.heap.size := by obtain ⟨m, hm⟩ := k1; exact DataW.trod_lt m _ _ _ hm
  obtain ⟨a0, rfl, rfl, rfl, w0⟩ := open_int Try.underlying23 (hval 0 23 v0 rfl rfl) h0
  obtain ⟨a1, rfl, rfl, rfl, w1⟩ := open_int Try.underlying5 (hval 1 5 v1 rfl rfl) h1
  clear hA0
  refine (walk W a0 (bounds_u32 w0) a1 (bounds_u8 w1)).mono fun e W' ⟨he, bel⟩ => ?_
  subst he
  exact ⟨_, rfl, _, _, _, [], _, [], hW', trodAll_mk1 (shut_bool Try.underlying4 _), (trodAll_cons_mk (Below.trod laidOut (by kernel_rfl) (of_decide_eq_true (by kernel_rfl)) k0 bel lt0) (trodAll_cons_mk (Below.trod laidOut (by kernel_rfl) (of_decide_eq_true (by kernel_rfl)) k1 bel lt1) trodAll_mk0)), rfl, bel.frame _, fun h => by cases h⟩

set_option maxRecDepth 100000 in
theorem lifted (os : Os) (started : os.Started) (H : Type) (enc : TypeId × Value → H) :
    ReturnsInHanded {} Try.checked os 9 .any (Rows.igmpGroupsSpec.pre6 enc Try.prog Try.f9 Rows.igmpGroupsRow.domain false) (Rows.igmpGroupsSpec.post enc Try.prog Try.f9 false true false false) := by
  refine returnsInHanded_of_change (C := Try.checked) own started (by kernel_rfl) Try.func9
    (ChangeSpec.witness6 (enc := enc) (C := Try.checked) false ⟨#[], #[(.int .u32 0), (.int .u8 0)], []⟩ 8 (by kernel_rfl) (by kernel_rfl) (by kernel_rfl) (by kernel_rfl)) ?_
  intro W base args ds gs before hval hW hcnd _
  exact contract H enc W base args ds gs before hval hW
theorem said : Rows.IgmpGroupsSaid :=
  OpenClaim.holds_of_wide 9 Try.f9 rfl rfl rfl rfl rfl rfl rfl ⟨rfl, rfl, rfl, rfl, rfl⟩ rfl rfl rfl rfl rfl (by kernel_rfl) Try.func9 (by kernel_rfl)
    (of_decide_eq_true (by kernel_rfl)) (by unfold Func.isWrapper; first | (rw [if_pos (by decide +kernel)]; kernel_rfl) | (rw [if_neg (by decide +kernel)]; exact ⟨rfl, rfl⟩))
    (fun os started H enc _ => lifted os started H enc)
#print axioms said
end Go.Proofs.Ytmcnanoamgkljaa.igmpGroups
