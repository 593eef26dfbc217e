/- The law SumTells: every call returns true, and its arguments read behind the call as before it. Condition: none but the row's own. -/
import Derived.Test.YtinpeblpmmmdeaaFs
namespace Go.Proofs.Ytinpeblpmmmdeaa.sumTells
set_option linter.unusedVariables false
open Go.ChangeShapes Go.WideShapes Go.ChangeAt Go.RowKit
open Go.ChangeMaps (open_string shut_string)

set_option maxHeartbeats 4000000 in
theorem walk (w : World) (a : Option Addr) (n cap : Nat) (xs : List Int) (hx : xs.length = n) (hm : n ≤ 9223372036854775807) (hb : Bs w a xs) (at' : Int) (hat : -9223372036854775808 ≤ at' ∧ at' ≤ 9223372036854775807) (x : Int) (hxx : 0 ≤ x ∧ x ≤ 65535) (y : Int) (hyy : 0 ≤ y ∧ y ≤ 65535) :
    Calls Try.prog 3 #[.agg #[.slice a n cap, .int .i64 at', .int .u16 x, .int .u16 y]] w fun e w' => e = .returned (.bool true) ∧ Below w.heap.size w w' := by
  have HX := Lib.hid hx
  have HB := Lib.hid hb
  have HB0 := Lib.hid ((Below.refl w.heap.size w).alloc (Nat.le_refl _) (.cells #[.slice a n cap, .int .i64 at', .int .u16 x, .int .u16 y] 25))
  clear hx hb
  go_enter Try.func3, Try.ntmps3
  go_wp2_with fail
  refine (sShown _).mono ?_
  rintro e w1 ⟨rfl, hb1⟩
  have HB1 := Lib.hid (HB0.out.trans (hb1.mono HB0.out.size))
  clear hb1
  by_cases h1 : 3000 < n
  · go_wp2_with fail
    go_ret
    exact ⟨rfl, HB1.out⟩
  have BS1 := Lib.hid (bs_below HB.out HB1.out)
  rcases sPut a n cap at' xs w1 (by omega) HX.out BS1.out hat with ⟨k, rfl, ⟨hk1, hk2⟩, hP⟩ | ⟨hbad, hP⟩
  · have HK1 := Lib.hid hk1
    have HP := Lib.hid hP
    clear hk1 hP
    go_wp2_with fail
    refine HP.out.mono ?_
    rintro e w2 ⟨g, rfl, hob, hg, hb2⟩
    have OB2 := Lib.hid hob
    have HB2 := Lib.hid (HB1.out.trans (hb2.mono HB1.out.size))
    clear hob hb2 hg
    go_wp2_with fail
    refine (rPut_ok a n cap k xs w2 (by omega) HX.out (bs_below HB.out HB2.out) HK1.out hk2).mono ?_
    rintro e w3 ⟨g', cap', rfl, hog, hg', hb3⟩
    have OG3 := Lib.hid hog
    have OB3 := Lib.hid (OB2.out.below hb3 OB2.out.lt)
    have HB3 := Lib.hid (HB2.out.trans (hb3.mono HB2.out.size))
    clear hog hb3 hg'
    go_wp2_with fail
    refine (rOf2 a n cap xs w3 HX.out (by omega) (bs_below HB.out HB3.out)).mono ?_
    rintro e w' ⟨rfl, rfl⟩
    go_wp2_with fail
    refine (sOf a n cap xs w3 HX.out (by omega) (bs_below HB.out HB3.out)).mono ?_
    rintro e w4 ⟨rfl, hb4⟩
    have OG4 := Lib.hid (OG3.out.below hb4 OG3.out.lt)
    have OB4 := Lib.hid (OB3.out.below hb4 OB3.out.lt)
    have HB4 := Lib.hid (HB3.out.trans (hb4.mono HB3.out.size))
    clear hb4
    go_wp2_with fail
    refine (sWhole a n cap xs w4 HX.out (by omega) (bs_below HB.out HB4.out)).mono ?_
    rintro e w5 ⟨rfl, hb5⟩
    have OG5 := Lib.hid (OG4.out.below hb5 OG4.out.lt)
    have OB5 := Lib.hid (OB4.out.below hb5 OB4.out.lt)
    have HB5 := Lib.hid (HB4.out.trans (hb5.mono HB4.out.size))
    clear hb5
    have HI := Lib.hid (isB_putS HB.out.2 k)
    have HL : Hid ((putS xs k).length = n) := Lib.hid ((putS_len xs k).trans HX.out)
    have HT : Hid (SameB (putS xs k) (putS xs k) = true) := Lib.hid (by simp [SameB])
    go_wp2_with (first
      | (go_at_call 15; refine (rSame _ _ n n n cap' (putS xs k) (putS xs k) _ HL.out HL.out hm (OB5.out.bs HI.out) (OG5.out.bs HI.out)).mono ?_; rintro e w6 ⟨rfl, hb6⟩; rw [HT.out])
      | (go_at_call 16; refine (sJoin x y _ hxx hyy).mono ?_; rintro e w' ⟨rfl, rfl⟩)
      | (go_at_call 17; refine (rJoin x y _ hxx hyy).mono ?_; rintro e w' ⟨rfl, rfl⟩))
    go_ret
    exact ⟨rfl, HB5.out.trans (hb6.mono HB5.out.size)⟩
  · have HP := Lib.hid hP
    have HBAD := Lib.hid hbad
    clear hP hbad
    go_wp2_with fail
    refine HP.out.mono ?_
    rintro e w2 ⟨rfl, rfl⟩
    go_wp2_with fail
    refine (rPut_no a n cap at' w1 (by omega) HBAD.out hat).mono ?_
    rintro e w2 ⟨rfl, rfl⟩
    go_wp2_with fail
    refine (rOf2 a n cap xs w1 HX.out (by omega) (bs_below HB.out HB1.out)).mono ?_
    rintro e w' ⟨rfl, rfl⟩
    go_wp2_with fail
    refine (sOf a n cap xs w1 HX.out (by omega) (bs_below HB.out HB1.out)).mono ?_
    rintro e w4 ⟨rfl, hb4⟩
    have HB4 := Lib.hid (HB1.out.trans (hb4.mono HB1.out.size))
    clear hb4
    go_wp2_with fail
    refine (sWhole a n cap xs w4 HX.out (by omega) (bs_below HB.out HB4.out)).mono ?_
    rintro e w5 ⟨rfl, hb5⟩
    have HB5 := Lib.hid (HB4.out.trans (hb5.mono HB4.out.size))
    clear hb5
    go_wp2_with (first
      | (go_at_call 15; refine (rSame0 none none 0 0 _).mono ?_; rintro e w6 ⟨rfl, hb6⟩)
      | (go_at_call 16; refine (sJoin x y _ hxx hyy).mono ?_; rintro e w' ⟨rfl, rfl⟩)
      | (go_at_call 17; refine (rJoin x y _ hxx hyy).mono ?_; rintro e w' ⟨rfl, rfl⟩))
    go_ret
    exact ⟨rfl, HB5.out.trans (hb6.mono HB5.out.size)⟩

theorem contract (H : Type) (enc : TypeId × Value → H) (W : World) (base : Nat) (args : Array Value) (ds gs : List (DataW H)) (before : List MemPlace)
    (hval : ∀ (j : Nat) t v, Try.f3.params[j]? = some t → args[j]? = some v → Value.okWide Try.prog W .any base t v)
    (hW : DataW.Whole enc Try.prog Try.f3.params.toList Rows.sumTellsSpec.vars false W args.toList ds gs before) :
    Calls Try.prog 3 args W fun e W' => ∃ v, e = .returned v ∧ Rows.sumTellsSpec.post enc Try.prog Try.f3 false true false false W args v W' := by
  have hW' := hW
  obtain ⟨p, q, hA0, hV, rfl, hfz, hnd⟩ := hW
  have hA : DataW.TrodAll enc Try.prog W 0 (fun _ => true) true Try.f3.params.toList args.toList ds p := hA0
  rw [Try.params3] at hA hval
  obtain ⟨v0, vs0, d0, ds0, p0, q0, hargs, rfl, rfl, h0, r0⟩ := trodAll_cons hA
  obtain ⟨rfl, rfl, rfl⟩ := trodAll_nil r0
  obtain rfl : args = #[v0] := by cases args; simp_all
  obtain ⟨rfl, rfl⟩ := trodVars_none hV
  have k0 := h0
  have lt0 : ∀ x ∈ p0, x.block < W.heap.size := by obtain ⟨m, hm⟩ := k0; exact DataW.trod_lt m _ _ _ hm
  obtain ⟨cs0, nf0, rfl, hlen0, hf0⟩ := agg_open Try.underlying25 (by kernel_rfl) (by kernel_rfl) (hval 0 25 v0 rfl rfl) h0
  match cs0, hlen0 with
  | [c0_0, c0_1, c0_2, c0_3], _ =>
  obtain ⟨_, _, e0_0, t0_0⟩ := hf0 0 _ rfl
  simp at e0_0
  subst e0_0
  obtain ⟨a0_0, len0_0, cap0_0, z0_0, rfl, w0_0⟩ := open_row Try.underlying22 Try.underlying5 (by kernel_rfl) t0_0
  obtain ⟨b0_0, l0_0, m0_0⟩ := bs_of_row w0_0
  obtain ⟨_, _, e0_1, t0_1⟩ := hf0 1 _ rfl
  simp at e0_1
  subst e0_1
  obtain ⟨x0_1, q0_1, _, w0_1⟩ := DataW.trod_int Try.underlying3 t0_1
  simp at q0_1
  subst q0_1
  obtain ⟨_, _, e0_2, t0_2⟩ := hf0 2 _ rfl
  simp at e0_2
  subst e0_2
  obtain ⟨x0_2, q0_2, _, w0_2⟩ := DataW.trod_int Try.underlying23 t0_2
  simp at q0_2
  subst q0_2
  obtain ⟨_, _, e0_3, t0_3⟩ := hf0 3 _ rfl
  simp at e0_3
  subst e0_3
  obtain ⟨x0_3, q0_3, _, w0_3⟩ := DataW.trod_int Try.underlying23 t0_3
  simp at q0_3
  subst q0_3
  clear hA0
  refine (walk W a0_0 len0_0 cap0_0 (z0_0.take len0_0) l0_0 m0_0 b0_0 x0_1 (bounds_i64 w0_1) x0_2 (bounds_u16 w0_2) x0_3 (bounds_u16 w0_3)).mono fun e W' ⟨he, bel⟩ => ?_
  subst he
  exact ⟨_, rfl, _, _, _, [], _, [], hW', trodAll_mk1 (shut_bool Try.underlying4 _), (trodAll_cons_mk (Below.trod laidOut (by kernel_rfl) (of_decide_eq_true (by kernel_rfl)) k0 bel lt0) trodAll_mk0), rfl, bel.frame _, fun h => by cases h⟩

set_option maxRecDepth 100000 in
theorem lifted (os : Os) (started : os.Started) (H : Type) (enc : TypeId × Value → H) :
    ReturnsInHanded {} Try.checked os 3 .any (Rows.sumTellsSpec.pre6 enc Try.prog Try.f3 Rows.sumTellsRow.domain false) (Rows.sumTellsSpec.post enc Try.prog Try.f3 false true false false) := by
  refine returnsInHanded_of_change (C := Try.checked) own started (by kernel_rfl) Try.func3
    (ChangeSpec.witness6 (enc := enc) (C := Try.checked) false ⟨#[], #[(.agg #[(.slice none 0 0), (.int .i64 0), (.int .u16 0), (.int .u16 0)])], []⟩ 8 (by kernel_rfl) (by kernel_rfl) (by kernel_rfl) (by kernel_rfl)) ?_
  intro W base args ds gs before hval hW hcnd _
  exact contract H enc W base args ds gs before hval hW
theorem said : Rows.SumTellsSaid :=
  OpenClaim.holds_of_wide 3 Try.f3 rfl rfl rfl rfl rfl rfl rfl ⟨rfl, rfl, rfl, rfl, rfl⟩ rfl rfl rfl rfl rfl (by kernel_rfl) Try.func3 (by kernel_rfl)
    (of_decide_eq_true (by kernel_rfl)) (by unfold Func.isWrapper; first | (rw [if_pos (by decide +kernel)]; kernel_rfl) | (rw [if_neg (by decide +kernel)]; exact ⟨rfl, rfl⟩))
    (fun os started H enc _ => lifted os started H enc)
#print axioms said
end Go.Proofs.Ytinpeblpmmmdeaa.sumTells
