/- The law SumWhole: every call returns true, and its arguments read behind the call as before it. Condition: none but the row's own. -/
import Derived.Test.YtinpeblpmmmdeaaFs
namespace Go.Proofs.Ytinpeblpmmmdeaa.sumWhole
set_option linter.unusedVariables false
open Go.ChangeShapes Go.WideShapes Go.ChangeAt Go.RowKit
open Go.ChangeMaps (open_string shut_string)

set_option maxHeartbeats 4000000 in
theorem walk (w : World) (a : Option Addr) (n cap : Nat) (xs : List Int) (hx : xs.length = n) (hm : n ≤ 9223372036854775807) (hb : Bs w a xs) (at' : Int) (hat : -9223372036854775808 ≤ at' ∧ at' ≤ 9223372036854775807) :
    Calls Try.prog 4 #[.slice a n cap, .int .i64 at'] w fun e w' => e = .returned (.bool true) ∧ Below w.heap.size w w' := by
  have HX := Lib.hid hx
  have HB := Lib.hid hb
  clear hx hb
  go_enter Try.func4, Try.ntmps4
  go_wp2_with fail
  refine (sShown _).mono ?_
  rintro e w1 ⟨rfl, hb1⟩
  have HB1 := Lib.hid hb1
  clear hb1
  by_cases h1 : 3000 < n
  · go_wp2_with fail
    go_ret
    exact ⟨rfl, HB1.out⟩
  have BS1 := Lib.hid (bs_below HB.out HB1.out)
  rcases sPut a n cap at' xs w1 (by omega) HX.out BS1.out hat with ⟨k, rfl, ⟨hk1, hk2⟩, hP⟩ | ⟨hbad, hP⟩
  · have HK1 := Lib.hid hk1
    have HP := Lib.hid hP
    clear hk1 hP
    go_wp2_with fail
    refine HP.out.mono ?_
    rintro e w2 ⟨g, rfl, hob, hg, hb2⟩
    have OB2 := Lib.hid hob
    have HB2 := Lib.hid (HB1.out.trans (hb2.mono HB1.out.size))
    clear hob hb2 hg
    obtain ⟨b, off, ha, hc⟩ : ∃ b off, a = some ⟨b, off, none⟩ ∧ ∀ k, k < xs.length → w.cell? ⟨b, off + k, none⟩ = some (.int .u8 (xs.getD k 0)) := by
      rcases HB.out.1 with e | e
      · have := HX.out; rw [e] at this; simp at this; omega
      · exact e
    subst ha
    have HC : Hid (∀ k, k < n → w2.cell? ⟨b, off + k, none⟩ = some (.int .u8 (xs.getD k 0))) := Lib.hid (fun k hk => (HB2.out.cell (p := ⟨b, off + k, none⟩) (cell_lt (hc k (by rw [HX.out]; exact hk)))).trans (hc k (by rw [HX.out]; exact hk)))
    clear hc
    have HI := Lib.hid (isB_putS HB.out.2 k)
    have HL : Hid ((putS xs k).length = n) := Lib.hid ((putS_len xs k).trans HX.out)
    have HW := Lib.hid (ofs_putS HB.out.2 (k := k) HK1.out (by rw [HX.out]; omega))
    have hne : ((n : Int) != (n : Int)) = false := by simp
    go_wp2_with fail
    go_loopw [8] (fun i wr => ∃ j q : Nat, j ≤ n ∧ i = .int .i64 j ∧ wr = w2.drewN q) (fun i _ => n - (intOf i).toNat)
    case atStart => exact ⟨0, 0, by omega, rfl, rfl⟩
    case round =>
      obtain ⟨j, q, hj, rfl, rfl⟩ := hrel
      by_cases hlt : j < n
      · have i2 : (j : Int) < (n : Int) := by omega
        by_cases h2 : j = k
        · have e2 : ((j : Int) != (k : Int)) = false := by rw [bne_eq_false_iff_eq]; omega
          have H2 := Lib.hid h2
          clear h2
          go_wp2_with fail
          go_quiet (fail)
          go_wp2_with fail
          go_roundw
          case rel => exact ⟨j + 1, _, by omega, by go_num, rfl⟩
          case measure => simp [intOf]; omega
        · have e2 : ((j : Int) != (k : Int)) = true := by rw [bne_iff_ne]; omega
          by_cases h3 : j = k + 1
          · have e3 : ((j : Int) != (k : Int) + 1) = false := by rw [bne_eq_false_iff_eq]; omega
            clear h2 h3
            go_wp2_with fail
            go_quiet (fail)
            go_wp2_with fail
            go_roundw
            case rel => exact ⟨j + 1, _, by omega, by go_num, rfl⟩
            case measure => simp [intOf]; omega
          · have e3 : ((j : Int) != (k : Int) + 1) = true := by rw [bne_iff_ne]; omega
            have c1 : ∀ q, (w2.drewN q).cell? ⟨b, off + j, none⟩ = some (.int .u8 (xs.getD j 0)) := fun q => HC.out j hlt
            have c2 : ∀ q, (w2.drewN q).cell? ⟨g, j, none⟩ = some (.int .u8 (xs.getD j 0)) := fun q => by
              have := OB2.out.cell (k := j) (by rw [HL.out]; exact hlt)
              rwa [putS_getD_ne h2 h3] at this
            generalize xs.getD j 0 = x at *
            have e4 : (x != x) = false := by simp
            clear h2 h3
            go_wp2_with fail
            go_quiet (fail)
            go_wp2_with fail
            go_roundw
            case rel => exact ⟨j + 1, _, by omega, by go_num, rfl⟩
            case measure => simp [intOf]; omega
      · obtain rfl : j = n := by omega
        have OBQ : Hid (Ob (w2.drewN q) g (putS xs k)) := Lib.hid (OB2.out.drewN q)
        go_wp2_with fail
        refine (sWhole _ j j (putS xs k) _ HL.out (by omega) (OBQ.out.bs HI.out)).mono ?_
        rintro e w5 ⟨rfl, hb5⟩
        have HB5 := Lib.hid ((bdrawn HB2.out q).trans (hb5.mono HB2.out.size))
        clear hb5
        rw [HW.out]
        go_wp2_with fail
        go_ret
        exact ⟨rfl, HB5.out⟩
  · have HP := Lib.hid hP
    have HBAD := Lib.hid hbad
    clear hP hbad
    go_wp2_with fail
    refine HP.out.mono ?_
    rintro e w2 ⟨rfl, rfl⟩
    by_cases h5 : at' < 0
    · go_wp2_with fail
      go_ret
      exact ⟨rfl, HB1.out⟩
    have h50 : 0 ≤ at' := by omega
    by_cases h6 : at' % 2 = 1
    · have e6 : (at' % 2 != 0) = true := by rw [h6]; rfl
      clear h6
      go_wp2_with fail
      go_ret
      exact ⟨rfl, HB1.out⟩
    have e6 : (at' % 2 != 0) = false := by rw [bne_eq_false_iff_eq]; omega
    have h7 : (n : Int) - 2 < at' := by have := HBAD.out; omega
    clear h6
    go_wp2_with fail
    go_ret
    exact ⟨rfl, HB1.out⟩

theorem contract (H : Type) (enc : TypeId × Value → H) (W : World) (base : Nat) (args : Array Value) (ds gs : List (DataW H)) (before : List MemPlace)
    (hval : ∀ (j : Nat) t v, Try.f4.params[j]? = some t → args[j]? = some v → Value.okWide Try.prog W .any base t v)
    (hW : DataW.Whole enc Try.prog Try.f4.params.toList Rows.sumWholeSpec.vars false W args.toList ds gs before) :
    Calls Try.prog 4 args W fun e W' => ∃ v, e = .returned v ∧ Rows.sumWholeSpec.post enc Try.prog Try.f4 false true false false W args v W' := by
  have hW' := hW
  obtain ⟨p, q, hA0, hV, rfl, hfz, hnd⟩ := hW
  have hA : DataW.TrodAll enc Try.prog W 0 (fun _ => true) true Try.f4.params.toList args.toList ds p := hA0
  rw [Try.params4] at hA hval
  obtain ⟨v0, vs0, d0, ds0, p0, q0, hargs, rfl, rfl, h0, r0⟩ := trodAll_cons hA
  obtain ⟨v1, vs1, d1, ds1, p1, q1, rfl, rfl, rfl, h1, r1⟩ := trodAll_cons r0
  obtain ⟨rfl, rfl, rfl⟩ := trodAll_nil r1
  obtain rfl : args = #[v0, v1] := by cases args; simp_all
  obtain ⟨rfl, rfl⟩ := trodVars_none hV
  have k0 := h0
  have lt0 : ∀ x ∈ p0, x.block < W.heap.size := by obtain ⟨m, hm⟩ := k0; exact DataW.trod_lt m _ _ _ hm
  have k1 := h1
  have lt1 : ∀ x ∈ p1, x.block < W.heap.size := by obtain ⟨m, hm⟩ := k1; exact DataW.trod_lt m _ _ _ hm
  obtain ⟨a0, len0, cap0, rfl⟩ := okWide_slice Try.underlying22 (hval 0 22 v0 rfl rfl)
  obtain ⟨z0, w0⟩ : ∃ zs, IsRow .u8 W a0 len0 cap0 zs := by
    obtain ⟨fuel, hf⟩ := h0
    rcases open_ints Try.underlying22 Try.underlying5 (by kernel_rfl) hf with ⟨hcs, _⟩ | ⟨x, l, c, zs, hcs, _, hl, hm, hz, _, hcell, hwz⟩
    · simp [Value.cells] at hcs
      obtain ⟨rfl, rfl, rfl⟩ := hcs
      exact ⟨[], .inl ⟨rfl, rfl, rfl, rfl⟩⟩
    · simp [Value.cells] at hcs
      obtain ⟨rfl, rfl, rfl⟩ := hcs
      exact ⟨zs, .inr ⟨_, rfl, hl, hm, by simpa using hz, hcell, hwz⟩⟩
  obtain ⟨b0, l0, m0⟩ := bs_of_row w0
  obtain ⟨a1, rfl, rfl, rfl, w1⟩ := open_int Try.underlying3 (hval 1 3 v1 rfl rfl) h1
  clear hA0
  refine (walk W a0 len0 cap0 (z0.take len0) l0 m0 b0 a1 (bounds_i64 w1)).mono fun e W' ⟨he, bel⟩ => ?_
  subst he
  exact ⟨_, rfl, _, _, _, [], _, [], hW', trodAll_mk1 (shut_bool Try.underlying4 _), (trodAll_cons_mk (Below.trod laidOut (by kernel_rfl) (of_decide_eq_true (by kernel_rfl)) k0 bel lt0) (trodAll_cons_mk (Below.trod laidOut (by kernel_rfl) (of_decide_eq_true (by kernel_rfl)) k1 bel lt1) trodAll_mk0)), rfl, bel.frame _, fun h => by cases h⟩

set_option maxRecDepth 100000 in
theorem lifted (os : Os) (started : os.Started) (H : Type) (enc : TypeId × Value → H) :
    ReturnsInHanded {} Try.checked os 4 .any (Rows.sumWholeSpec.pre6 enc Try.prog Try.f4 Rows.sumWholeRow.domain false) (Rows.sumWholeSpec.post enc Try.prog Try.f4 false true false false) := by
  refine returnsInHanded_of_change (C := Try.checked) own started (by kernel_rfl) Try.func4
    (ChangeSpec.witness6 (enc := enc) (C := Try.checked) false ⟨#[], #[(.slice none 0 0), (.int .i64 0)], []⟩ 8 (by kernel_rfl) (by kernel_rfl) (by kernel_rfl) (by kernel_rfl)) ?_
  intro W base args ds gs before hval hW hcnd _
  exact contract H enc W base args ds gs before hval hW
theorem said : Rows.SumWholeSaid :=
  OpenClaim.holds_of_wide 4 Try.f4 rfl rfl rfl rfl rfl rfl rfl ⟨rfl, rfl, rfl, rfl, rfl⟩ rfl rfl rfl rfl rfl (by kernel_rfl) Try.func4 (by kernel_rfl)
    (of_decide_eq_true (by kernel_rfl)) (by unfold Func.isWrapper; first | (rw [if_pos (by decide +kernel)]; kernel_rfl) | (rw [if_neg (by decide +kernel)]; exact ⟨rfl, rfl⟩))
    (fun os started H enc _ => lifted os started H enc)
#print axioms said
end Go.Proofs.Ytinpeblpmmmdeaa.sumWhole
