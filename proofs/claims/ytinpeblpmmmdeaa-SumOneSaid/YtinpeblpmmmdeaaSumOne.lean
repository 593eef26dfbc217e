/- The law SumOne: every call returns true, and its arguments read behind the call as before it. Condition: none but the row's own. -/
import Derived.Test.YtinpeblpmmmdeaaFs
namespace Go.Proofs.Ytinpeblpmmmdeaa.sumOne
set_option linter.unusedVariables false
open Go.ChangeShapes Go.WideShapes Go.ChangeAt Go.RowKit
open Go.ChangeMaps (open_string shut_string)

theorem other {xs : List Int} (h : IsB xs) {k : Nat} (hk : k < xs.length) {v : Int} (hv : v ≠ xs.getD k 0) (h0 : 0 ≤ v) (h1 : v ≤ 255) (hw : ofs xs = 0) : ofs (xs.set k v) ≠ 0 := by
  intro h2
  have e := tot_set xs k v hk
  have hx := h k hk
  have t1 := (ofs_zero h).1 hw
  have t2 := (ofs_zero (isB_set h k h0 h1)).1 h2
  have hwt : wt k = 256 ∨ wt k = 1 := by unfold wt; split <;> simp
  generalize tot (xs.set k v) = T at *
  generalize tot xs = S at *
  generalize xs.getD k 0 = x at *
  rcases hwt with hwt | hwt <;> rw [hwt] at e <;> omega

set_option maxHeartbeats 2000000 in
theorem walk (w : World) (a : Option Addr) (n cap : Nat) (xs : List Int) (hx : xs.length = n) (hm : n ≤ 9223372036854775807) (hb : Bs w a xs) (hnil : a = none → n = 0 ∧ cap = 0) (at' : Int) (hat : -9223372036854775808 ≤ at' ∧ at' ≤ 9223372036854775807) (y : Int) (hy : 0 ≤ y ∧ y ≤ 255) :
    Calls Try.prog 7 #[.slice a n cap, .int .i64 at', .int .u8 y] w fun e w' => e = .returned (.bool true) ∧ Below w.heap.size w w' := by
  have HX := Lib.hid hx
  have HB := Lib.hid hb
  have HNIL := Lib.hid hnil
  clear hx hb hnil
  go_enter Try.func7, Try.ntmps7
  go_wp2_with fail
  refine (sShown _).mono ?_
  rintro e w1 ⟨rfl, hb1⟩
  have HB1 := Lib.hid hb1
  clear hb1
  by_cases h1 : 1000 < n
  · go_wp2_with fail
    go_ret
    exact ⟨rfl, HB1.out⟩
  by_cases h2 : at' < 0
  · go_wp2_with fail
    go_ret
    exact ⟨rfl, HB1.out⟩
  by_cases h3 : (n : Int) ≤ at'
  · go_wp2_with fail
    go_ret
    exact ⟨rfl, HB1.out⟩
  obtain ⟨k, rfl⟩ := Int.eq_ofNat_of_zero_le (a := at') (by omega)
  have hkn : k < n := by omega
  by_cases h4 : y = 0
  · have e4 : (y == 0) = true := by rw [h4]; rfl
    have H4 := Lib.hid h4
    clear h4
    go_wp2_with fail
    go_ret
    exact ⟨rfl, HB1.out⟩
  have e4 : (y == 0) = false := by rw [beq_eq_false_iff_ne]; exact h4
  have hi : (k : Int) < (n : Int) := by omega
  have BS1 := Lib.hid (bs_below HB.out HB1.out)
  go_wp2_with fail
  refine (sWhole a n cap xs w1 HX.out (by omega) BS1.out).mono ?_
  rintro e w2 ⟨rfl, hb2⟩
  have HB2 := Lib.hid (HB1.out.trans (hb2.mono HB1.out.size))
  clear hb2
  by_cases h5 : ofs xs = 0
  · have e5 : (ofs xs == 0) = true := by rw [h5]; rfl
    have H5 := Lib.hid h5
    rw [e5]
    clear h5 e5
    have BS2 := Lib.hid (bs_below HB.out (HB2.out.alloc HB2.out.size (.cells #[] 5)))
    go_wp2_with (with_reducible refine wpList_app_bs rfl (.tmp 33) (.tmp 34) rfl w.heap.size (some ⟨w2.heap.size, 0, none⟩) 0 0 [] rfl (Ow.empty w2 HB2.out.size) a n cap xs rfl HX.out BS2.out HNIL.out (by omega) w (by simp; have := HB2.out.size; omega) (HB2.out.alloc HB2.out.size _) ?_; intro a3 cap3 w3 how3 hb3; rw [Nat.zero_add, List.nil_append] at how3; obtain ⟨g, rfl, hgB, hog⟩ := Ow.og how3.out (by omega); have HOG := Lib.hid hog; have c1 := hog.cell (k := k) (by rw [HX.out]; exact hkn); have f1 := hog.frozen k; clear how3 hog)
    have HO := Lib.hid (xor8_other (HB.out.2 k (by rw [HX.out]; exact hkn)) hy h4)
    have HV := Lib.hid (other HB.out.2 (by rw [HX.out]; exact hkn) HO.out.1 HO.out.2.1 HO.out.2.2 H5.out)
    have HI := Lib.hid (isB_set HB.out.2 k HO.out.2.1 HO.out.2.2)
    have OG4 := Lib.hid (HOG.out.set k (bits .xor .u8 (xs.getD k 0) y) (by rw [HX.out]; exact hkn))
    have HB4 := Lib.hid (hb3.setCell (p := ⟨g, k, none⟩) hgB (.int .u8 (bits .xor .u8 (xs.getD k 0) y)))
    have HL : Hid ((xs.set k (bits .xor .u8 (xs.getD k 0) y)).length = n) := Lib.hid (by rw [List.length_set]; exact HX.out)
    go_wp2_with (go_at_call 14; refine (sWhole _ n cap3 _ _ HL.out (by omega) (OG4.out.bs HI.out)).mono ?_; rintro e w5 ⟨rfl, hb5⟩; rw [show (ofs (xs.set k (bits .xor .u8 (xs.getD k 0) y)) == 0) = false by rw [beq_eq_false_iff_ne]; exact HV.out])
    go_ret
    exact ⟨rfl, HB4.out.trans (hb5.mono HB4.out.size)⟩
  · have e5 : (ofs xs == 0) = false := by rw [beq_eq_false_iff_ne]; exact h5
    rw [e5]
    clear h5 e5
    go_wp2_with fail
    go_ret
    exact ⟨rfl, HB2.out⟩

theorem contract (H : Type) (enc : TypeId × Value → H) (W : World) (base : Nat) (args : Array Value) (ds gs : List (DataW H)) (before : List MemPlace)
    (hval : ∀ (j : Nat) t v, Try.f7.params[j]? = some t → args[j]? = some v → Value.okWide Try.prog W .any base t v)
    (hW : DataW.Whole enc Try.prog Try.f7.params.toList Rows.sumOneSpec.vars false W args.toList ds gs before) :
    Calls Try.prog 7 args W fun e W' => ∃ v, e = .returned v ∧ Rows.sumOneSpec.post enc Try.prog Try.f7 false true false false W args v W' := by
  have hW' := hW
  obtain ⟨p, q, hA0, hV, rfl, hfz, hnd⟩ := hW
  have hA : DataW.TrodAll enc Try.prog W 0 (fun _ => true) true Try.f7.params.toList args.toList ds p := hA0
  rw [Try.params7] at hA hval
  obtain ⟨v0, vs0, d0, ds0, p0, q0, hargs, rfl, rfl, h0, r0⟩ := trodAll_cons hA
  obtain ⟨v1, vs1, d1, ds1, p1, q1, rfl, rfl, rfl, h1, r1⟩ := trodAll_cons r0
  obtain ⟨v2, vs2, d2, ds2, p2, q2, rfl, rfl, rfl, h2, r2⟩ := trodAll_cons r1
  obtain ⟨rfl, rfl, rfl⟩ := trodAll_nil r2
  obtain rfl : args = #[v0, v1, v2] := by cases args; simp_all
  obtain ⟨rfl, rfl⟩ := trodVars_none hV
  have k0 := h0
  have lt0 : ∀ x ∈ p0, x.block < W.heap.size := by obtain ⟨m, hm⟩ := k0; exact DataW.trod_lt m _ _ _ hm
  have k1 := h1
  have lt1 : ∀ x ∈ p1, x.block < W.heap.size := by obtain ⟨m, hm⟩ := k1; exact DataW.trod_lt m _ _ _ hm
  have k2 := h2
  have lt2 : ∀ x ∈ p2, x.block < W.heap.size := by obtain ⟨m, hm⟩ := k2; exact DataW.trod_lt m _ _ _ hm
  obtain ⟨a0, len0, cap0, rfl⟩ := okWide_slice Try.underlying22 (hval 0 22 v0 rfl rfl)
  obtain ⟨z0, w0⟩ : ∃ zs, IsRow .u8 W a0 len0 cap0 zs := by
    obtain ⟨fuel, hf⟩ := h0
    rcases open_ints Try.underlying22 Try.underlying5 (by kernel_rfl) hf with ⟨hcs, _⟩ | ⟨x, l, c, zs, hcs, _, hl, hm, hz, _, hcell, hwz⟩
    · simp [Value.cells] at hcs
      obtain ⟨rfl, rfl, rfl⟩ := hcs
      exact ⟨[], .inl ⟨rfl, rfl, rfl, rfl⟩⟩
    · simp [Value.cells] at hcs
      obtain ⟨rfl, rfl, rfl⟩ := hcs
      exact ⟨zs, .inr ⟨_, rfl, hl, hm, by simpa using hz, hcell, hwz⟩⟩
  obtain ⟨b0, l0, m0⟩ := bs_of_row w0
  obtain ⟨a1, rfl, rfl, rfl, w1⟩ := open_int Try.underlying3 (hval 1 3 v1 rfl rfl) h1
  obtain ⟨a2, rfl, rfl, rfl, w2⟩ := open_int Try.underlying5 (hval 2 5 v2 rfl rfl) h2
  clear hA0
  refine (walk W a0 len0 cap0 (z0.take len0) l0 m0 b0 (nil_of_row w0) a1 (bounds_i64 w1) a2 (bounds_u8 w2)).mono fun e W' ⟨he, bel⟩ => ?_
  subst he
  exact ⟨_, rfl, _, _, _, [], _, [], hW', trodAll_mk1 (shut_bool Try.underlying4 _), (trodAll_cons_mk (Below.trod laidOut (by kernel_rfl) (of_decide_eq_true (by kernel_rfl)) k0 bel lt0) (trodAll_cons_mk (Below.trod laidOut (by kernel_rfl) (of_decide_eq_true (by kernel_rfl)) k1 bel lt1) (trodAll_cons_mk (Below.trod laidOut (by kernel_rfl) (of_decide_eq_true (by kernel_rfl)) k2 bel lt2) trodAll_mk0))), rfl, bel.frame _, fun h => by cases h⟩

set_option maxRecDepth 100000 in
theorem lifted (os : Os) (started : os.Started) (H : Type) (enc : TypeId × Value → H) :
    ReturnsInHanded {} Try.checked os 7 .any (Rows.sumOneSpec.pre6 enc Try.prog Try.f7 Rows.sumOneRow.domain false) (Rows.sumOneSpec.post enc Try.prog Try.f7 false true false false) := by
  refine returnsInHanded_of_change (C := Try.checked) own started (by kernel_rfl) Try.func7
    (ChangeSpec.witness6 (enc := enc) (C := Try.checked) false ⟨#[], #[(.slice none 0 0), (.int .i64 0), (.int .u8 0)], []⟩ 8 (by kernel_rfl) (by kernel_rfl) (by kernel_rfl) (by kernel_rfl)) ?_
  intro W base args ds gs before hval hW hcnd _
  exact contract H enc W base args ds gs before hval hW
theorem said : Rows.SumOneSaid :=
  OpenClaim.holds_of_wide 7 Try.f7 rfl rfl rfl rfl rfl rfl rfl ⟨rfl, rfl, rfl, rfl, rfl⟩ rfl rfl rfl rfl rfl (by kernel_rfl) Try.func7 (by kernel_rfl)
    (of_decide_eq_true (by kernel_rfl)) (by unfold Func.isWrapper; first | (rw [if_pos (by decide +kernel)]; kernel_rfl) | (rw [if_neg (by decide +kernel)]; exact ⟨rfl, rfl⟩))
    (fun os started H enc _ => lifted os started H enc)
#print axioms said
end Go.Proofs.Ytinpeblpmmmdeaa.sumOne
