/- The law IgmpReads: every call returns true, and its arguments read behind the call as before it. Condition: none but the row's own. -/
import Derived.Test.YtmcnanoamgkljaaQ12
namespace Go.Proofs.Ytmcnanoamgkljaa.igmpReads
set_option linter.unusedVariables false
open Go.ChangeShapes Go.WideShapes Go.ChangeAt Go.RowKit
open Go.ChangeMaps (open_string shut_string)

set_option maxRecDepth 100000 in
set_option maxHeartbeats 4000000 in
theorem walk (w : World) (a : Option Addr) (n c : Nat) (xs : List Int) (hx : xs.length = n) (hm : n ≤ 9223372036854775807) (hb : Bs w a xs) (hnil : a = none → n = 0 ∧ c = 0) (hnc : n ≤ c) :
    Calls Try.prog 4 #[.slice a n c] w fun e w' => e = .returned (.bool true) ∧ Below w.heap.size w w' := by
  have HX := Lib.hid hx
  have HB := Lib.hid hb
  have HNC := Lib.hid hnc
  clear hx hb hnil hnc
  by_cases q1 : 3000 < n
  · go_enter Try.func4, Try.ntmps4
    go_wp2_with fail
    refine (iShown _).mono ?_
    rintro e w1 ⟨rfl, hb1⟩
    have HB1 := Lib.hid hb1
    clear hb1
    go_wp2
    go_ret
    exact ⟨rfl, HB1.out⟩
  go_enter Try.func4, Try.ntmps4
  go_wp2_with fail
  refine (iShown _).mono ?_
  rintro e w1 ⟨rfl, hb1⟩
  have HB1 := Lib.hid hb1
  have HXB := Lib.hid (bs_below HB.out hb1)
  clear hb1
  go_wp2_with fail
  refine (gDecode a n c xs w1 HX.out (by omega) HNC.out HXB.out).mono ?_
  rintro e w2 ⟨sa, sc, ra, rc, rfl, hms, hb2⟩
  obtain ⟨m, em⟩ : ∃ m, decM xs = m := ⟨_, rfl⟩
  obtain ⟨f, ef⟩ : ∃ f, decE xs = f := ⟨_, rfl⟩
  rw [em] at hms
  rw [em, ef]
  have EM := Lib.hid em
  have EF := Lib.hid ef
  have HMS := Lib.hid hms
  have HB2 := Lib.hid (HB1.out.trans (hb2.mono HB1.out.size))
  have HXB2 := Lib.hid (bs_below HXB.out hb2)
  clear em ef hms hb2
  have MB2 := Lib.hid (MB.new w2 (.int .u8 m.kind) (.int .i64 m.ver) (.int .u8 m.code) (.int .u32 m.grp) (.bool m.quiet) (.int .u8 m.rob) (.int .u8 m.every) (.slice sa m.srcs.length sc) (.slice ra m.recs.length rc))
  go_wp2_with fail
  refine (rDecode a n c xs _ HX.out (by omega) HNC.out (bs_below HXB2.out (bel1 _ _))).mono ?_
  rintro e w3 ⟨sa', sc', ra', rc', rfl, hms', hb3⟩
  rw [EM.out] at hms'
  rw [EM.out, EF.out]
  have HMS' := Lib.hid hms'
  have HMS3 := Lib.hid ((HMS.out.below (bel1 _ _)).below hb3)
  have HB3 := Lib.hid (HB2.out.trans (((bel1 w2 _).trans (hb3.mono (bel1 w2 _).size)).mono HB2.out.size))
  have MB3 := Lib.hid ((MB2.out.below hb3 MB2.out.lt).below (bel1 w3 (.cells #[.int .u8 m.kind, .int .i64 m.ver, .int .u8 m.code, .int .u32 m.grp, .bool m.quiet, .int .u8 m.rob, .int .u8 m.every, .slice sa' m.srcs.length sc', .slice ra' m.recs.length rc'] 27)) (MB2.out.below hb3 MB2.out.lt).lt)
  have MB3' := Lib.hid (MB.new w3 (.int .u8 m.kind) (.int .i64 m.ver) (.int .u8 m.code) (.int .u32 m.grp) (.bool m.quiet) (.int .u8 m.rob) (.int .u8 m.every) (.slice sa' m.srcs.length sc') (.slice ra' m.recs.length rc'))
  obtain ⟨y0, y1, y2, y3, y4, y5, y6, y7, y8, -⟩ := MB3.out.cells
  obtain ⟨z0, z1, z2, z3, z4, z5, z6, z7, z8, -⟩ := MB3'.out.cells
  clear hms' hb3
  go_wp2_with fail
  refine (rSameM m m sa ra sa' ra' sc rc sc' rc' _ (HMS3.out.below (bel1 _ _)) (HMS'.out.below (bel1 _ _))).mono ?_
  rintro e w4 ⟨rfl, hb4⟩
  rw [(sameM_iff m m).2 rfl]
  have HB4 := Lib.hid (HB3.out.trans (((bel1 w3 _).trans (hb4.mono (bel1 w3 _).size)).mono HB3.out.size))
  clear hb4
  go_wp2
  go_ret
  exact ⟨rfl, HB4.out⟩

theorem contract (H : Type) (enc : TypeId × Value → H) (W : World) (base : Nat) (args : Array Value) (ds gs : List (DataW H)) (before : List MemPlace)
    (hval : ∀ (j : Nat) t v, Try.f4.params[j]? = some t → args[j]? = some v → Value.okWide Try.prog W .any base t v)
    (hW : DataW.Whole enc Try.prog Try.f4.params.toList Rows.igmpReadsSpec.vars false W args.toList ds gs before) :
    Calls Try.prog 4 args W fun e W' => ∃ v, e = .returned v ∧ Rows.igmpReadsSpec.post enc Try.prog Try.f4 false true false false W args v W' := by
  have hW' := hW
  obtain ⟨p, q, hA0, hV, rfl, hfz, hnd⟩ := hW
  have hA : DataW.TrodAll enc Try.prog W 0 (fun _ => true) true Try.f4.params.toList args.toList ds p := hA0
  rw [Try.params4] at hA hval
  obtain ⟨v0, vs0, d0, ds0, p0, q0, hargs, rfl, rfl, h0, r0⟩ := trodAll_cons hA
  obtain ⟨rfl, rfl, rfl⟩ := trodAll_nil r0
  obtain rfl : args = #[v0] := by cases args; simp_all
  obtain ⟨rfl, rfl⟩ := trodVars_none hV
  have k0 := h0
  have lt0 : ∀ x ∈ p0, x.block < W.heap.size := by obtain ⟨m, hm⟩ := k0; exact DataW.trod_lt m _ _ _ hm
  obtain ⟨a0, len0, cap0, rfl⟩ := okWide_slice Try.underlying30 (hval 0 30 v0 rfl rfl)
  obtain ⟨z0, w0⟩ : ∃ zs, IsRow .u8 W a0 len0 cap0 zs := by
    obtain ⟨fuel, hf⟩ := h0
    rcases open_ints Try.underlying30 Try.underlying5 (by kernel_rfl) hf with ⟨hcs, _⟩ | ⟨x, l, c, zs, hcs, _, hl, hm, hz, _, hcell, hwz⟩
    · simp [Value.cells] at hcs
      obtain ⟨rfl, rfl, rfl⟩ := hcs
      exact ⟨[], .inl ⟨rfl, rfl, rfl, rfl⟩⟩
    · simp [Value.cells] at hcs
      obtain ⟨rfl, rfl, rfl⟩ := hcs
      exact ⟨zs, .inr ⟨_, rfl, hl, hm, by simpa using hz, hcell, hwz⟩⟩
  obtain ⟨b0, l0, m0⟩ := bs_of_row w0
  clear hA0
  refine (walk W a0 len0 cap0 (z0.take len0) l0 m0 b0 (nil_of_row w0) (len_cap w0)).mono fun e W' ⟨he, bel⟩ => ?_
  subst he
  exact ⟨_, rfl, _, _, _, [], _, [], hW', trodAll_mk1 (shut_bool Try.underlying4 _), (trodAll_cons_mk (Below.trod laidOut (by kernel_rfl) (of_decide_eq_true (by kernel_rfl)) k0 bel lt0) trodAll_mk0), rfl, bel.frame _, fun h => by cases h⟩

set_option maxRecDepth 100000 in
theorem lifted (os : Os) (started : os.Started) (H : Type) (enc : TypeId × Value → H) :
    ReturnsInHanded {} Try.checked os 4 .any (Rows.igmpReadsSpec.pre6 enc Try.prog Try.f4 Rows.igmpReadsRow.domain false) (Rows.igmpReadsSpec.post enc Try.prog Try.f4 false true false false) := by
  refine returnsInHanded_of_change (C := Try.checked) own started (by kernel_rfl) Try.func4
    (ChangeSpec.witness6 (enc := enc) (C := Try.checked) false ⟨#[], #[(.slice none 0 0)], []⟩ 8 (by kernel_rfl) (by kernel_rfl) (by kernel_rfl) (by kernel_rfl)) ?_
  intro W base args ds gs before hval hW hcnd _
  exact contract H enc W base args ds gs before hval hW
theorem said : Rows.IgmpReadsSaid :=
  OpenClaim.holds_of_wide 4 Try.f4 rfl rfl rfl rfl rfl rfl rfl ⟨rfl, rfl, rfl, rfl, rfl⟩ rfl rfl rfl rfl rfl (by kernel_rfl) Try.func4 (by kernel_rfl)
    (of_decide_eq_true (by kernel_rfl)) (by unfold Func.isWrapper; first | (rw [if_pos (by decide +kernel)]; kernel_rfl) | (rw [if_neg (by decide +kernel)]; exact ⟨rfl, rfl⟩))
    (fun os started H enc _ => lifted os started H enc)
#print axioms said
end Go.Proofs.Ytmcnanoamgkljaa.igmpReads
