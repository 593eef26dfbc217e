/- The law SumZeros: every call returns true, and its arguments read behind the call as before it. Condition: none but the row's own. -/
import Derived.Test.YtinpeblpmmmdeaaFs
namespace Go.Proofs.Ytinpeblpmmmdeaa.sumZeros
set_option linter.unusedVariables false
open Go.ChangeShapes Go.WideShapes Go.ChangeAt Go.RowKit
open Go.ChangeMaps (open_string shut_string)

theorem ofs_rep (m : Nat) : ofs (List.replicate m 0) = 65535 := by unfold ofs nrm; rw [tot_rep]; rfl
theorem put0_rep (m k : Nat) : put0 (List.replicate m 0) k = List.replicate m 0 := by
  unfold put0 putw
  apply List.ext_getElem?
  intro i
  simp only [List.getElem?_set, List.length_set, List.length_replicate, List.getElem?_replicate]
  by_cases h1 : k + 1 = i <;> by_cases h2 : k = i <;> simp [h1, h2] <;> split <;> simp_all <;> omega
theorem putS_rep (m k : Nat) : putS (List.replicate m 0) k = putw (List.replicate m 0) k 65535 := by
  unfold putS; rw [put0_rep, ofs_rep]

set_option maxHeartbeats 4000000 in
theorem walk (w : World) (nn : Int) (hnn : 0 ≤ nn ∧ nn ≤ 255) (at' : Int) (hat : -9223372036854775808 ≤ at' ∧ at' ≤ 9223372036854775807) :
    Calls Try.prog 8 #[.int .u8 nn, .int .i64 at'] w fun e w' => e = .returned (.bool true) ∧ Below w.heap.size w w' := by
  obtain ⟨m, rfl⟩ := Int.eq_ofNat_of_zero_le hnn.1
  have hm : m ≤ 255 := by omega
  have hmk := run_make_row' (P := Try.prog) 22 5 (.int .u8 0) 1 Try.underlying22 info8 rfl .i64 .i64 m (by omega) (by omega)
  obtain ⟨Z, hZ⟩ : ∃ Z, Z = List.replicate m (0 : Int) := ⟨_, rfl⟩
  have HI : Hid (IsB Z) := Lib.hid (by rw [hZ]; exact isB_rep m)
  have HL : Hid (Z.length = m) := Lib.hid (by rw [hZ, List.length_replicate])
  have HZ : Hid (Z = List.replicate m 0) := Lib.hid hZ
  have HO : Hid (ofs Z = 65535) := Lib.hid (by rw [hZ]; exact ofs_rep m)
  clear hZ
  go_enter Try.func8, Try.ntmps8
  go_wp2_with fail
  refine (sShown _).mono ?_
  rintro e w1 ⟨rfl, hb1⟩
  have HB1 := Lib.hid hb1
  clear hb1
  obtain ⟨W, hW⟩ : ∃ W, W = w1.alloc (.cells (madeCells #[.int .u8 0] m) 5) := ⟨_, rfl⟩
  have OBW : Hid (Ob W w1.heap.size Z) := Lib.hid (by rw [hW, HZ.out]; exact Ob.made w1 m)
  have HBW : Hid (Below w.heap.size w W) := Lib.hid (by rw [hW]; exact HB1.out.alloc HB1.out.size _)
  have HW := Lib.hid hW
  clear hW
  rcases sPut (some ⟨w1.heap.size, 0, none⟩) m m at' Z W (by omega) HL.out (OBW.out.bs HI.out) hat with ⟨k, rfl, ⟨hk1, hk2⟩, hP⟩ | ⟨hbad, hP⟩
  · have HP := Lib.hid hP
    have HK1 := Lib.hid hk1
    clear hP hk1
    have E := Lib.hid (putS_rep m k)
    go_wp2_with fail
    rw [← HW.out]
    refine HP.out.mono ?_
    rintro e w2 ⟨g, rfl, hob, hg, hb2⟩
    have OB2 := Lib.hid hob
    have OW2 := Lib.hid (OBW.out.below hb2 OBW.out.lt)
    have HB2 := Lib.hid (HBW.out.trans (hb2.mono HBW.out.size))
    clear hob hb2 hg
    go_wp2_with fail
    refine (sOf _ m m Z w2 HL.out (by omega) (OW2.out.bs HI.out)).mono ?_
    rintro e w3 ⟨rfl, hb3⟩
    have OB3 := Lib.hid (OB2.out.below hb3 OB2.out.lt)
    have OW3 := Lib.hid (OW2.out.below hb3 OW2.out.lt)
    have HB3 := Lib.hid (HB2.out.trans (hb3.mono HB2.out.size))
    clear hb3
    rw [HO.out]
    go_wp2_with fail
    refine (sWhole _ m m Z w3 HL.out (by omega) (OW3.out.bs HI.out)).mono ?_
    rintro e w4 ⟨rfl, hb4⟩
    have OB4 := Lib.hid (OB3.out.below hb4 OB3.out.lt)
    have OW4 := Lib.hid (OW3.out.below hb4 OW3.out.lt)
    have HB4 := Lib.hid (HB3.out.trans (hb4.mono HB3.out.size))
    clear hb4
    rw [HO.out]
    have HLP : Hid ((putS Z k).length = m) := Lib.hid ((putS_len Z k).trans HL.out)
    have HIP := Lib.hid (isB_putS HI.out k)
    have HWP := Lib.hid (ofs_putS HI.out (k := k) HK1.out (by rw [HL.out]; omega))
    have v1 : (putS Z k).getD k 0 = 255 := by rw [HZ.out, E.out, putw_getD_0 _ (by rw [List.length_replicate]; omega)]; rfl
    have v2 : (putS Z k).getD (k + 1) 0 = 255 := by rw [HZ.out, E.out, putw_getD_1 _ (by rw [List.length_replicate]; omega)]; rfl
    have v0 : Z.getD k 0 = 0 := by
      rw [HZ.out, List.getD_eq_getElem?_getD, List.getElem?_replicate]; split <;> rfl
    have HD : Hid (SameB (putS Z k) Z = false) := Lib.hid (by
      unfold SameB
      rw [decide_eq_false_iff_not]
      intro h
      rw [h, v0] at v1
      omega)
    have c1 := OB4.out.cell (k := k) (by rw [HLP.out]; omega)
    have c2 := OB4.out.cell (k := k + 1) (by rw [HLP.out]; omega)
    rw [v1] at c1
    rw [v2] at c2
    have e1 : ((k : Int) + 1).toNat = k + 1 := by omega
    clear v0 v1 v2
    go_wp2_with fail
    refine (sWhole _ m m (putS Z k) w4 HLP.out (by omega) (OB4.out.bs HIP.out)).mono ?_
    rintro e w5 ⟨rfl, hb5⟩
    have OB5 := Lib.hid (OB4.out.below hb5 OB4.out.lt)
    have OW5 := Lib.hid (OW4.out.below hb5 OW4.out.lt)
    have HB5 := Lib.hid (HB4.out.trans (hb5.mono HB4.out.size))
    clear hb5
    rw [HWP.out]
    go_wp2_with fail
    refine (rSame _ _ m m m m (putS Z k) Z w5 HLP.out HL.out (by omega) (OB5.out.bs HIP.out) (OW5.out.bs HI.out)).mono ?_
    rintro e w6 ⟨rfl, hb6⟩
    have HB6 := Lib.hid (HB5.out.trans (hb6.mono HB5.out.size))
    clear hb6
    rw [HD.out]
    go_wp2_with fail
    go_ret
    exact ⟨rfl, HB6.out⟩
  · have HP := Lib.hid hP
    clear hP hbad
    go_wp2_with fail
    rw [← HW.out]
    refine HP.out.mono ?_
    rintro e w2 ⟨rfl, rfl⟩
    go_wp2_with fail
    refine (sOf _ m m Z W HL.out (by omega) (OBW.out.bs HI.out)).mono ?_
    rintro e w3 ⟨rfl, hb3⟩
    have OW3 := Lib.hid (OBW.out.below hb3 OBW.out.lt)
    have HB3 := Lib.hid (HBW.out.trans (hb3.mono HBW.out.size))
    clear hb3
    rw [HO.out]
    go_wp2_with fail
    refine (sWhole _ m m Z w3 HL.out (by omega) (OW3.out.bs HI.out)).mono ?_
    rintro e w4 ⟨rfl, hb4⟩
    have HB4 := Lib.hid (HB3.out.trans (hb4.mono HB3.out.size))
    clear hb4
    rw [HO.out]
    go_wp2_with fail
    go_ret
    exact ⟨rfl, HB4.out⟩

theorem contract (H : Type) (enc : TypeId × Value → H) (W : World) (base : Nat) (args : Array Value) (ds gs : List (DataW H)) (before : List MemPlace)
    (hval : ∀ (j : Nat) t v, Try.f8.params[j]? = some t → args[j]? = some v → Value.okWide Try.prog W .any base t v)
    (hW : DataW.Whole enc Try.prog Try.f8.params.toList Rows.sumZerosSpec.vars false W args.toList ds gs before) :
    Calls Try.prog 8 args W fun e W' => ∃ v, e = .returned v ∧ Rows.sumZerosSpec.post enc Try.prog Try.f8 false true false false W args v W' := by
  have hW' := hW
  obtain ⟨p, q, hA0, hV, rfl, hfz, hnd⟩ := hW
  have hA : DataW.TrodAll enc Try.prog W 0 (fun _ => true) true Try.f8.params.toList args.toList ds p := hA0
  rw [Try.params8] at hA hval
  obtain ⟨v0, vs0, d0, ds0, p0, q0, hargs, rfl, rfl, h0, r0⟩ := trodAll_cons hA
  obtain ⟨v1, vs1, d1, ds1, p1, q1, rfl, rfl, rfl, h1, r1⟩ := trodAll_cons r0
  obtain ⟨rfl, rfl, rfl⟩ := trodAll_nil r1
  obtain rfl : args = #[v0, v1] := by cases args; simp_all
  obtain ⟨rfl, rfl⟩ := trodVars_none hV
  have k0 := h0
  have lt0 : ∀ x ∈ p0, x.block < W.heap.size := by obtain ⟨m, hm⟩ := k0; exact DataW.trod_lt m _ _ _ hm
  have k1 := h1
  have lt1 : ∀ x ∈ p1, x.block < W.heap.size := by obtain ⟨m, hm⟩ := k1; exact DataW.trod_lt m _ _ _ hm
  obtain ⟨a0, rfl, rfl, rfl, w0⟩ := open_int Try.underlying5 (hval 0 5 v0 rfl rfl) h0
  obtain ⟨a1, rfl, rfl, rfl, w1⟩ := open_int Try.underlying3 (hval 1 3 v1 rfl rfl) h1
  clear hA0
  refine (walk W a0 (bounds_u8 w0) a1 (bounds_i64 w1)).mono fun e W' ⟨he, bel⟩ => ?_
  subst he
  exact ⟨_, rfl, _, _, _, [], _, [], hW', trodAll_mk1 (shut_bool Try.underlying4 _), (trodAll_cons_mk (Below.trod laidOut (by kernel_rfl) (of_decide_eq_true (by kernel_rfl)) k0 bel lt0) (trodAll_cons_mk (Below.trod laidOut (by kernel_rfl) (of_decide_eq_true (by kernel_rfl)) k1 bel lt1) trodAll_mk0)), rfl, bel.frame _, fun h => by cases h⟩

set_option maxRecDepth 100000 in
theorem lifted (os : Os) (started : os.Started) (H : Type) (enc : TypeId × Value → H) :
    ReturnsInHanded {} Try.checked os 8 .any (Rows.sumZerosSpec.pre6 enc Try.prog Try.f8 Rows.sumZerosRow.domain false) (Rows.sumZerosSpec.post enc Try.prog Try.f8 false true false false) := by
  refine returnsInHanded_of_change (C := Try.checked) own started (by kernel_rfl) Try.func8
    (ChangeSpec.witness6 (enc := enc) (C := Try.checked) false ⟨#[], #[(.int .u8 0), (.int .i64 0)], []⟩ 8 (by kernel_rfl) (by kernel_rfl) (by kernel_rfl) (by kernel_rfl)) ?_
  intro W base args ds gs before hval hW hcnd _
  exact contract H enc W base args ds gs before hval hW
theorem said : Rows.SumZerosSaid :=
  OpenClaim.holds_of_wide 8 Try.f8 rfl rfl rfl rfl rfl rfl rfl ⟨rfl, rfl, rfl, rfl, rfl⟩ rfl rfl rfl rfl rfl (by kernel_rfl) Try.func8 (by kernel_rfl)
    (of_decide_eq_true (by kernel_rfl)) (by unfold Func.isWrapper; first | (rw [if_pos (by decide +kernel)]; kernel_rfl) | (rw [if_neg (by decide +kernel)]; exact ⟨rfl, rfl⟩))
    (fun os started H enc _ => lifted os started H enc)
#print axioms said
end Go.Proofs.Ytinpeblpmmmdeaa.sumZeros
