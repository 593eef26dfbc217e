/- The law IgmpVersions: every call returns true, and its arguments read behind the call as before it. Condition: none but the row's own. -/
import Derived.Test.YtmcnanoamgkljaaQ12
namespace Go.Proofs.Ytmcnanoamgkljaa.igmpVersions
set_option linter.unusedVariables false
open Go.ChangeShapes Go.WideShapes Go.ChangeAt Go.RowKit
open Go.ChangeMaps (open_string shut_string)

def mA : Msg := ⟨17, 1, 0, 0, false, 0, 0, [], []⟩
def mB (c : Int) : Msg := ⟨17, 2, c, 0, false, 0, 0, [], []⟩
def mC (c : Int) (q : Bool) (v : Int) : Msg := ⟨17, 3, c, 0, q, 0, v, [], []⟩
theorem msA (w : World) : Ms w mA none none := ⟨As.nil _ _, Rs.nil _ _, by simp [mA, Msg.ok]⟩
theorem msB (w : World) {c : Int} (hc : 0 ≤ c ∧ c ≤ 255) : Ms w (mB c) none none := ⟨As.nil _ _, Rs.nil _ _, by simp [mB, Msg.ok]; exact hc⟩
theorem msC (w : World) {c v : Int} {q : Bool} (hc : 0 ≤ c ∧ c ≤ 255) (hv : 0 ≤ v ∧ v ≤ 255) : Ms w (mC c q v) none none := ⟨As.nil _ _, Rs.nil _ _, by simp [mC, Msg.ok]; exact ⟨hc, hv⟩⟩
theorem rA : right mA = true := rfl
theorem rB {c : Int} (h : 0 < c) : right (mB c) = true := by simp [right, mB, bare, may, h]
theorem rB0 : right (mB 0) = false := rfl
theorem rC (c : Int) (q : Bool) (v : Int) : right (mC c q v) = true := by simp [right, mC]
theorem lA : (enc0 mA).length = 8 := rfl
theorem lB (c : Int) : (enc0 (mB c)).length = 8 := rfl
theorem lC (c : Int) (q : Bool) (v : Int) : (enc0 (mC c q v)).length = 12 := rfl
theorem bsN (w : World) (a : Option Addr) : Bs w a [] := ⟨.inl rfl, fun k h => absurd h (by simp)⟩
set_option maxRecDepth 100000 in
set_option maxHeartbeats 4000000 in
theorem walk0 (w : World) (q : Bool) (v : Int) (hv : 0 ≤ v ∧ v ≤ 255) :
    Calls Try.prog 8 #[.int .u8 0, .bool q, .int .u8 v] w fun e w' => e = .returned (.bool true) ∧ Below w.heap.size w w' := by
  have HV := Lib.hid hv
  have FA := Lib.hid (msA w).fit
  have FC := Lib.hid (msC w (c := 0) (q := q) (by omega) hv).fit
  clear hv
  go_enter Try.func8, Try.ntmps8
  go_wp2_with fail
  refine (iShown _).mono ?_
  rintro e w1 ⟨rfl, hb⟩
  have BB := Lib.hid hb
  clear hb
  go_wp2_with fail
  refine (gEncode_ok mA none none 0 0 _ (msA _) FA.out rA).mono ?_
  rintro e w2 ⟨ga, rfl, ho, hg, hb⟩
  rw [lA]
  have BB := Lib.hid (BB.out.trans (hb.mono BB.out.size))
  have OA := Lib.hid (ho.bs (isB_encM FA.out rA))
  clear hb
  clear ho hg
  go_wp2_with fail
  refine (gEncode_no (mB 0) none none 0 0 _ (msB _ (by omega)) rB0).mono ?_
  rintro e w3 ⟨rfl, hb⟩
  have BB := Lib.hid (BB.out.trans (hb.mono BB.out.size))
  have OA := Lib.hid (bs_below OA.out hb)
  clear hb
  go_wp2_with fail
  refine (gEncode_ok (mC 0 q v) none none 0 0 _ (msC _ (by omega) HV.out) FC.out (rC _ _ _)).mono ?_
  rintro e w4 ⟨gc, rfl, ho, hg, hb⟩
  rw [lC]
  have BB := Lib.hid (BB.out.trans (hb.mono BB.out.size))
  have OA := Lib.hid (bs_below OA.out hb)
  have OC := Lib.hid (ho.bs (isB_encM FC.out (rC _ _ _)))
  clear hb
  clear ho hg
  go_wp2_with fail
  refine (gDecode (some ⟨ga, 0, none⟩) 8 8 (encM mA) w4 (by rw [encM_len]; rfl) (by omega) (by omega) OA.out).mono ?_
  rintro e w5 ⟨sa, sc, ra, rc, rfl, hms, hb⟩
  rw [decM_enc FA.out rA, decE_enc FA.out rA]
  clear hms
  have BB := Lib.hid (BB.out.trans (hb.mono BB.out.size))
  have OA := Lib.hid (bs_below OA.out hb)
  have OC := Lib.hid (bs_below OC.out hb)
  clear hb
  have ha := bel1 w5 (.cells #[.int .u8 mA.kind, .int .i64 mA.ver, .int .u8 mA.code, .int .u32 mA.grp, .bool mA.quiet, .int .u8 mA.rob, .int .u8 mA.every, .slice sa mA.srcs.length sc, .slice ra mA.recs.length rc] 27)
  have BB := Lib.hid (BB.out.trans (ha.mono BB.out.size))
  have OA := Lib.hid (bs_below OA.out ha)
  have OC := Lib.hid (bs_below OC.out ha)
  have MA := Lib.hid (MB.new w5 (.int .u8 mA.kind) (.int .i64 mA.ver) (.int .u8 mA.code) (.int .u32 mA.grp) (.bool mA.quiet) (.int .u8 mA.rob) (.int .u8 mA.every) (.slice sa mA.srcs.length sc) (.slice ra mA.recs.length rc))
  clear ha
  simp only [mA, List.length_nil] at MA
  simp only [mA, List.length_nil]
  go_wp2_with fail
  refine (gDecode none 0 0 [] _ rfl (by omega) (by omega) (bsN _ _)).mono ?_
  rintro e w6 ⟨sb, sd, rb, rd, rfl, hms, hb⟩
  clear hms
  rw [show decE [] = 3 from rfl, show decM [] = m0 from rfl]
  have BB := Lib.hid (BB.out.trans (hb.mono BB.out.size))
  have OA := Lib.hid (bs_below OA.out hb)
  have OC := Lib.hid (bs_below OC.out hb)
  have MA := Lib.hid (MA.out.below hb MA.out.lt)
  clear hb
  have ha := bel1 w6 (.cells #[.int .u8 m0.kind, .int .i64 m0.ver, .int .u8 m0.code, .int .u32 m0.grp, .bool m0.quiet, .int .u8 m0.rob, .int .u8 m0.every, .slice sb m0.srcs.length sd, .slice rb m0.recs.length rd] 27)
  have BB := Lib.hid (BB.out.trans (ha.mono BB.out.size))
  have OA := Lib.hid (bs_below OA.out ha)
  have OC := Lib.hid (bs_below OC.out ha)
  have MA := Lib.hid (MA.out.below ha MA.out.lt)
  have MX := Lib.hid (MB.new w6 (.int .u8 m0.kind) (.int .i64 m0.ver) (.int .u8 m0.code) (.int .u32 m0.grp) (.bool m0.quiet) (.int .u8 m0.rob) (.int .u8 m0.every) (.slice sb m0.srcs.length sd) (.slice rb m0.recs.length rd))
  clear ha
  simp only [m0, List.length_nil] at MX
  simp only [m0, List.length_nil]
  go_wp2_with fail
  refine (gDecode (some ⟨gc, 0, none⟩) 12 12 (encM (mC 0 q v)) _ (by rw [encM_len]; rfl) (by omega) (by omega) OC.out).mono ?_
  rintro e w7 ⟨se, sf, re, rf, rfl, hms, hb⟩
  clear hms
  rw [decM_enc FC.out (rC _ _ _), decE_enc FC.out (rC _ _ _)]
  have BB := Lib.hid (BB.out.trans (hb.mono BB.out.size))
  have OA := Lib.hid (bs_below OA.out hb)
  have OC := Lib.hid (bs_below OC.out hb)
  have MA := Lib.hid (MA.out.below hb MA.out.lt)
  have MX := Lib.hid (MX.out.below hb MX.out.lt)
  clear hb
  have ha := bel1 w7 (.cells #[.int .u8 (mC 0 q v).kind, .int .i64 (mC 0 q v).ver, .int .u8 (mC 0 q v).code, .int .u32 (mC 0 q v).grp, .bool (mC 0 q v).quiet, .int .u8 (mC 0 q v).rob, .int .u8 (mC 0 q v).every, .slice se (mC 0 q v).srcs.length sf, .slice re (mC 0 q v).recs.length rf] 27)
  have BB := Lib.hid (BB.out.trans (ha.mono BB.out.size))
  have OA := Lib.hid (bs_below OA.out ha)
  have OC := Lib.hid (bs_below OC.out ha)
  have MA := Lib.hid (MA.out.below ha MA.out.lt)
  have MX := Lib.hid (MX.out.below ha MX.out.lt)
  have MZ := Lib.hid (MB.new w7 (.int .u8 (mC 0 q v).kind) (.int .i64 (mC 0 q v).ver) (.int .u8 (mC 0 q v).code) (.int .u32 (mC 0 q v).grp) (.bool (mC 0 q v).quiet) (.int .u8 (mC 0 q v).rob) (.int .u8 (mC 0 q v).every) (.slice se (mC 0 q v).srcs.length sf) (.slice re (mC 0 q v).recs.length rf))
  clear ha
  simp only [mC, List.length_nil] at MA MX MZ
  simp only [mC, List.length_nil]
  obtain ⟨MAc0, MAc1, MAc2, MAc3, MAc4, MAc5, MAc6, MAc7, MAc8, -⟩ := MA.out.cells
  obtain ⟨MXc0, MXc1, MXc2, MXc3, MXc4, MXc5, MXc6, MXc7, MXc8, -⟩ := MX.out.cells
  obtain ⟨MZc0, MZc1, MZc2, MZc3, MZc4, MZc5, MZc6, MZc7, MZc8, -⟩ := MZ.out.cells
  go_wp2
  go_ret
  exact ⟨rfl, BB.out⟩
set_option maxRecDepth 100000 in
set_option maxHeartbeats 4000000 in
theorem walk1 (w : World) (c : Int) (hc : 0 ≤ c ∧ c ≤ 255) (q : Bool) (v : Int) (hv : 0 ≤ v ∧ v ≤ 255) (h0 : 0 < c) :
    Calls Try.prog 8 #[.int .u8 c, .bool q, .int .u8 v] w fun e w' => e = .returned (.bool true) ∧ Below w.heap.size w w' := by
  have HV := Lib.hid hv
  have HC := Lib.hid hc
  have RB := Lib.hid (rB h0)
  have FA := Lib.hid (msA w).fit
  have FB := Lib.hid (msB w hc).fit
  have FC := Lib.hid (msC w (q := q) hc hv).fit
  have h1 : (c == 0) = false := by rw [beq_eq_false_iff_ne]; omega
  clear hv hc
  go_enter Try.func8, Try.ntmps8
  go_wp2_with fail
  refine (iShown _).mono ?_
  rintro e w1 ⟨rfl, hb⟩
  have BB := Lib.hid hb
  clear hb
  go_wp2_with fail
  refine (gEncode_ok mA none none 0 0 _ (msA _) FA.out rA).mono ?_
  rintro e w2 ⟨ga, rfl, ho, hg, hb⟩
  rw [lA]
  have BB := Lib.hid (BB.out.trans (hb.mono BB.out.size))
  have OA := Lib.hid (ho.bs (isB_encM FA.out rA))
  clear hb
  clear ho hg
  go_wp2_with fail
  refine (gEncode_ok (mB c) none none 0 0 _ (msB _ HC.out) FB.out RB.out).mono ?_
  rintro e w3 ⟨gb, rfl, ho, hg, hb⟩
  rw [lB]
  have BB := Lib.hid (BB.out.trans (hb.mono BB.out.size))
  have OA := Lib.hid (bs_below OA.out hb)
  have OB := Lib.hid (ho.bs (isB_encM FB.out RB.out))
  clear hb
  clear ho hg
  go_wp2_with fail
  refine (gEncode_ok (mC c q v) none none 0 0 _ (msC _ HC.out HV.out) FC.out (rC _ _ _)).mono ?_
  rintro e w4 ⟨gc, rfl, ho, hg, hb⟩
  rw [lC]
  have BB := Lib.hid (BB.out.trans (hb.mono BB.out.size))
  have OA := Lib.hid (bs_below OA.out hb)
  have OB := Lib.hid (bs_below OB.out hb)
  have OC := Lib.hid (ho.bs (isB_encM FC.out (rC _ _ _)))
  clear hb
  clear ho hg
  go_wp2_with fail
  refine (gDecode (some ⟨ga, 0, none⟩) 8 8 (encM mA) w4 (by rw [encM_len]; rfl) (by omega) (by omega) OA.out).mono ?_
  rintro e w5 ⟨sa, sc, ra, rc, rfl, hms, hb⟩
  rw [decM_enc FA.out rA, decE_enc FA.out rA]
  clear hms
  have BB := Lib.hid (BB.out.trans (hb.mono BB.out.size))
  have OA := Lib.hid (bs_below OA.out hb)
  have OB := Lib.hid (bs_below OB.out hb)
  have OC := Lib.hid (bs_below OC.out hb)
  clear hb
  have ha := bel1 w5 (.cells #[.int .u8 mA.kind, .int .i64 mA.ver, .int .u8 mA.code, .int .u32 mA.grp, .bool mA.quiet, .int .u8 mA.rob, .int .u8 mA.every, .slice sa mA.srcs.length sc, .slice ra mA.recs.length rc] 27)
  have BB := Lib.hid (BB.out.trans (ha.mono BB.out.size))
  have OA := Lib.hid (bs_below OA.out ha)
  have OB := Lib.hid (bs_below OB.out ha)
  have OC := Lib.hid (bs_below OC.out ha)
  have MA := Lib.hid (MB.new w5 (.int .u8 mA.kind) (.int .i64 mA.ver) (.int .u8 mA.code) (.int .u32 mA.grp) (.bool mA.quiet) (.int .u8 mA.rob) (.int .u8 mA.every) (.slice sa mA.srcs.length sc) (.slice ra mA.recs.length rc))
  clear ha
  simp only [mA, List.length_nil] at MA
  simp only [mA, List.length_nil]
  go_wp2_with fail
  refine (gDecode (some ⟨gb, 0, none⟩) 8 8 (encM (mB c)) _ (by rw [encM_len]; rfl) (by omega) (by omega) OB.out).mono ?_
  rintro e w6 ⟨sb, sd, rb, rd, rfl, hms, hb⟩
  clear hms
  rw [decM_enc FB.out RB.out, decE_enc FB.out RB.out]
  have BB := Lib.hid (BB.out.trans (hb.mono BB.out.size))
  have OA := Lib.hid (bs_below OA.out hb)
  have OB := Lib.hid (bs_below OB.out hb)
  have OC := Lib.hid (bs_below OC.out hb)
  have MA := Lib.hid (MA.out.below hb MA.out.lt)
  clear hb
  have ha := bel1 w6 (.cells #[.int .u8 (mB c).kind, .int .i64 (mB c).ver, .int .u8 (mB c).code, .int .u32 (mB c).grp, .bool (mB c).quiet, .int .u8 (mB c).rob, .int .u8 (mB c).every, .slice sb (mB c).srcs.length sd, .slice rb (mB c).recs.length rd] 27)
  have BB := Lib.hid (BB.out.trans (ha.mono BB.out.size))
  have OA := Lib.hid (bs_below OA.out ha)
  have OB := Lib.hid (bs_below OB.out ha)
  have OC := Lib.hid (bs_below OC.out ha)
  have MA := Lib.hid (MA.out.below ha MA.out.lt)
  have MX := Lib.hid (MB.new w6 (.int .u8 (mB c).kind) (.int .i64 (mB c).ver) (.int .u8 (mB c).code) (.int .u32 (mB c).grp) (.bool (mB c).quiet) (.int .u8 (mB c).rob) (.int .u8 (mB c).every) (.slice sb (mB c).srcs.length sd) (.slice rb (mB c).recs.length rd))
  clear ha
  simp only [mB, List.length_nil] at MX
  simp only [mB, List.length_nil]
  go_wp2_with fail
  refine (gDecode (some ⟨gc, 0, none⟩) 12 12 (encM (mC c q v)) _ (by rw [encM_len]; rfl) (by omega) (by omega) OC.out).mono ?_
  rintro e w7 ⟨se, sf, re, rf, rfl, hms, hb⟩
  clear hms
  rw [decM_enc FC.out (rC _ _ _), decE_enc FC.out (rC _ _ _)]
  have BB := Lib.hid (BB.out.trans (hb.mono BB.out.size))
  have OA := Lib.hid (bs_below OA.out hb)
  have OB := Lib.hid (bs_below OB.out hb)
  have OC := Lib.hid (bs_below OC.out hb)
  have MA := Lib.hid (MA.out.below hb MA.out.lt)
  have MX := Lib.hid (MX.out.below hb MX.out.lt)
  clear hb
  have ha := bel1 w7 (.cells #[.int .u8 (mC c q v).kind, .int .i64 (mC c q v).ver, .int .u8 (mC c q v).code, .int .u32 (mC c q v).grp, .bool (mC c q v).quiet, .int .u8 (mC c q v).rob, .int .u8 (mC c q v).every, .slice se (mC c q v).srcs.length sf, .slice re (mC c q v).recs.length rf] 27)
  have BB := Lib.hid (BB.out.trans (ha.mono BB.out.size))
  have OA := Lib.hid (bs_below OA.out ha)
  have OB := Lib.hid (bs_below OB.out ha)
  have OC := Lib.hid (bs_below OC.out ha)
  have MA := Lib.hid (MA.out.below ha MA.out.lt)
  have MX := Lib.hid (MX.out.below ha MX.out.lt)
  have MZ := Lib.hid (MB.new w7 (.int .u8 (mC c q v).kind) (.int .i64 (mC c q v).ver) (.int .u8 (mC c q v).code) (.int .u32 (mC c q v).grp) (.bool (mC c q v).quiet) (.int .u8 (mC c q v).rob) (.int .u8 (mC c q v).every) (.slice se (mC c q v).srcs.length sf) (.slice re (mC c q v).recs.length rf))
  clear ha
  simp only [mC, List.length_nil] at MA MX MZ
  simp only [mC, List.length_nil]
  obtain ⟨MAc0, MAc1, MAc2, MAc3, MAc4, MAc5, MAc6, MAc7, MAc8, -⟩ := MA.out.cells
  obtain ⟨MXc0, MXc1, MXc2, MXc3, MXc4, MXc5, MXc6, MXc7, MXc8, -⟩ := MX.out.cells
  obtain ⟨MZc0, MZc1, MZc2, MZc3, MZc4, MZc5, MZc6, MZc7, MZc8, -⟩ := MZ.out.cells
  go_wp2
  go_ret
  exact ⟨rfl, BB.out⟩
theorem walk (w : World) (c : Int) (hc : 0 ≤ c ∧ c ≤ 255) (q : Bool) (v : Int) (hv : 0 ≤ v ∧ v ≤ 255) :
    Calls Try.prog 8 #[.int .u8 c, .bool q, .int .u8 v] w fun e w' => e = .returned (.bool true) ∧ Below w.heap.size w w' := by
  by_cases h0 : c = 0
  · subst h0; exact walk0 w q v hv
  · exact walk1 w c hc q v hv (by omega)

theorem contract (H : Type) (enc : TypeId × Value → H) (W : World) (base : Nat) (args : Array Value) (ds gs : List (DataW H)) (before : List MemPlace)
    (hval : ∀ (j : Nat) t v, Try.f8.params[j]? = some t → args[j]? = some v → Value.okWide Try.prog W .any base t v)
    (hW : DataW.Whole enc Try.prog Try.f8.params.toList Rows.igmpVersionsSpec.vars false W args.toList ds gs before) :
    Calls Try.prog 8 args W fun e W' => ∃ v, e = .returned v ∧ Rows.igmpVersionsSpec.post enc Try.prog Try.f8 false true false false W args v W' := by
  have hW' := hW
  obtain ⟨p, q, hA0, hV, rfl, hfz, hnd⟩ := hW
  have hA : DataW.TrodAll enc Try.prog W 0 (fun _ => true) true Try.f8.params.toList args.toList ds p := hA0
  rw [Try.params8] at hA hval
  obtain ⟨v0, vs0, d0, ds0, p0, q0, hargs, rfl, rfl, h0, r0⟩ := trodAll_cons hA
  obtain ⟨v1, vs1, d1, ds1, p1, q1, rfl, rfl, rfl, h1, r1⟩ := trodAll_cons r0
  obtain ⟨v2, vs2, d2, ds2, p2, q2, rfl, rfl, rfl, h2, r2⟩ := trodAll_cons r1
  obtain ⟨rfl, rfl, rfl⟩ := trodAll_nil r2
  obtain rfl : args = #[v0, v1, v2] := by cases args; simp_all
  obtain ⟨rfl, rfl⟩ := trodVars_none hV
  have k0 := h0
  have lt0 : ∀ x ∈ p0, x.block < W.heap.size := by obtain ⟨m, hm⟩ := k0; exact DataW.trod_lt m _ _ _ hm
  have k1 := h1
  have lt1 : ∀ x ∈ p1, x.block < W.heap.size := by obtain ⟨m, hm⟩ := k1; exact DataW.trod_lt m _ _ _ hm
  have k2 := h2
  have lt2 : ∀ x ∈ p2, x.block < W.heap.size := by obtain ⟨m, hm⟩ := k2; exact DataW.trod_lt m _ _ _ hm
  obtain ⟨a0, rfl, rfl, rfl, w0⟩ := open_int Try.underlying5 (hval 0 5 v0 rfl rfl) h0
  obtain ⟨a1, rfl, rfl, rfl⟩ := open_bool Try.underlying4 (hval 1 4 v1 rfl rfl) h1
  obtain ⟨a2, rfl, rfl, rfl, w2⟩ := open_int Try.underlying5 (hval 2 5 v2 rfl rfl) h2
  clear hA0
  refine (walk W a0 (bounds_u8 w0) a1 a2 (bounds_u8 w2)).mono fun e W' ⟨he, bel⟩ => ?_
  subst he
  exact ⟨_, rfl, _, _, _, [], _, [], hW', trodAll_mk1 (shut_bool Try.underlying4 _), (trodAll_cons_mk (Below.trod laidOut (by kernel_rfl) (of_decide_eq_true (by kernel_rfl)) k0 bel lt0) (trodAll_cons_mk (Below.trod laidOut (by kernel_rfl) (of_decide_eq_true (by kernel_rfl)) k1 bel lt1) (trodAll_cons_mk (Below.trod laidOut (by kernel_rfl) (of_decide_eq_true (by kernel_rfl)) k2 bel lt2) trodAll_mk0))), rfl, bel.frame _, fun h => by cases h⟩

set_option maxRecDepth 100000 in
theorem lifted (os : Os) (started : os.Started) (H : Type) (enc : TypeId × Value → H) :
    ReturnsInHanded {} Try.checked os 8 .any (Rows.igmpVersionsSpec.pre6 enc Try.prog Try.f8 Rows.igmpVersionsRow.domain false) (Rows.igmpVersionsSpec.post enc Try.prog Try.f8 false true false false) := by
  refine returnsInHanded_of_change (C := Try.checked) own started (by kernel_rfl) Try.func8
    (ChangeSpec.witness6 (enc := enc) (C := Try.checked) false ⟨#[], #[(.int .u8 0), (.bool false), (.int .u8 0)], []⟩ 8 (by kernel_rfl) (by kernel_rfl) (by kernel_rfl) (by kernel_rfl)) ?_
  intro W base args ds gs before hval hW hcnd _
  exact contract H enc W base args ds gs before hval hW
theorem said : Rows.IgmpVersionsSaid :=
  OpenClaim.holds_of_wide 8 Try.f8 rfl rfl rfl rfl rfl rfl rfl ⟨rfl, rfl, rfl, rfl, rfl⟩ rfl rfl rfl rfl rfl (by kernel_rfl) Try.func8 (by kernel_rfl)
    (of_decide_eq_true (by kernel_rfl)) (by unfold Func.isWrapper; first | (rw [if_pos (by decide +kernel)]; kernel_rfl) | (rw [if_neg (by decide +kernel)]; exact ⟨rfl, rfl⟩))
    (fun os started H enc _ => lifted os started H enc)
#print axioms said
end Go.Proofs.Ytmcnanoamgkljaa.igmpVersions
