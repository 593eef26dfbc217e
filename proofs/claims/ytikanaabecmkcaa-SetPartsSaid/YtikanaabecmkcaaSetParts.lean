/- The law SetParts: every call returns true, and its arguments read behind the call as before it. Condition: none but the row's own. -/
import Derived.Test.YtikanaabecmkcaaPl
namespace Go.Proofs.Ytikanaabecmkcaa.setParts
set_option linter.unusedVariables false
open Go.ChangeShapes Go.WideShapes Go.ChangeAt Go.RowKit
open Go.ChangeMaps (open_string shut_string)

set_option linter.unusedSimpArgs false in
set_option maxRecDepth 100000 in
set_option maxHeartbeats 8000000 in
theorem walk0 (w : World) (a : Option Addr) (ca : Nat) (xs : List Int) (sa : As w a xs) (fa : Flat a xs.length ca) (na : xs.length ≤ 1125899906842624) (b : Option Addr) (cb : Nat) (ys : List Int) (sb : As w b ys) (fb : Flat b ys.length cb) (nb : ys.length ≤ 1125899906842624) (x : Int) (hx : 0 ≤ x ∧ x ≤ 4294967295) (q : ¬ xs.length + ys.length ≤ 200) :
    Calls Try.prog 5 #[.slice a xs.length ca, .slice b ys.length cb, .int .u32 x] w fun e w' => e = .returned (.bool true) ∧ Below w.heap.size w w' := by
  have Sa := Lib.hid sa
  have Fa := Lib.hid fa
  have Sb := Lib.hid sb
  have Fb := Lib.hid fb
  clear sa sb fa fb
  go_enter Try.func5, Try.ntmps5
  go_wp2_with fail
  refine (sShown _).mono ?_
  rintro e w1 ⟨rfl, hb⟩
  have BB := Lib.hid hb
  have Sa := Lib.hid (Sa.out.below hb)
  have Sb := Lib.hid (Sb.out.below hb)
  clear hb
  go_wp2_with fail
  refine (sFew a b xs.length ys.length ca cb _ (by omega) (by omega)).mono ?_
  rintro e w2 ⟨rfl, rfl⟩
  rw [decide_eq_false q]
  go_wp2_with fail
  go_ret
  exact ⟨rfl, BB.out⟩
set_option linter.unusedSimpArgs false in
set_option maxRecDepth 100000 in
set_option maxHeartbeats 8000000 in
theorem walk1 (w : World) (a : Option Addr) (ca : Nat) (xs : List Int) (sa : As w a xs) (fa : Flat a xs.length ca) (na : xs.length ≤ 1125899906842624) (b : Option Addr) (cb : Nat) (ys : List Int) (sb : As w b ys) (fb : Flat b ys.length cb) (nb : ys.length ≤ 1125899906842624) (x : Int) (hx : 0 ≤ x ∧ x ≤ 4294967295) (q : xs.length + ys.length ≤ 200) (i1 : ¬ Inc xs) :
    Calls Try.prog 5 #[.slice a xs.length ca, .slice b ys.length cb, .int .u32 x] w fun e w' => e = .returned (.bool true) ∧ Below w.heap.size w w' := by
  have Sa := Lib.hid sa
  have Fa := Lib.hid fa
  have Sb := Lib.hid sb
  have Fb := Lib.hid fb
  clear sa sb fa fb
  have La := Lib.hid (by omega : xs.length ≤ 200)
  have Lb := Lib.hid (by omega : ys.length ≤ 200)
  go_enter Try.func5, Try.ntmps5
  go_wp2_with fail
  refine (sShown _).mono ?_
  rintro e w1 ⟨rfl, hb⟩
  have BB := Lib.hid hb
  have Sa := Lib.hid (Sa.out.below hb)
  have Sb := Lib.hid (Sb.out.below hb)
  clear hb
  go_wp2_with fail
  refine (sFew a b xs.length ys.length ca cb _ (by omega) (by omega)).mono ?_
  rintro e w2 ⟨rfl, rfl⟩
  rw [decide_eq_true q]
  go_wp2_with fail
  refine (rRight a _ ca (xs) _ rfl (by have := La.out; omega) Sa.out).mono ?_
  rintro e w3 ⟨rfl, hb⟩
  have BB := Lib.hid (BB.out.trans (hb.mono BB.out.size))
  have Sa := Lib.hid (Sa.out.below hb)
  have Sb := Lib.hid (Sb.out.below hb)
  clear hb
  rw [decide_eq_false i1]
  go_wp2_with fail
  go_ret
  exact ⟨rfl, BB.out⟩
set_option linter.unusedSimpArgs false in
set_option maxRecDepth 100000 in
set_option maxHeartbeats 8000000 in
theorem walk2 (w : World) (a : Option Addr) (ca : Nat) (xs : List Int) (sa : As w a xs) (fa : Flat a xs.length ca) (na : xs.length ≤ 1125899906842624) (b : Option Addr) (cb : Nat) (ys : List Int) (sb : As w b ys) (fb : Flat b ys.length cb) (nb : ys.length ≤ 1125899906842624) (x : Int) (hx : 0 ≤ x ∧ x ≤ 4294967295) (q : xs.length + ys.length ≤ 200) (i1 : Inc xs) (i2 : ¬ Inc ys) :
    Calls Try.prog 5 #[.slice a xs.length ca, .slice b ys.length cb, .int .u32 x] w fun e w' => e = .returned (.bool true) ∧ Below w.heap.size w w' := by
  have Sa := Lib.hid sa
  have Fa := Lib.hid fa
  have Sb := Lib.hid sb
  have Fb := Lib.hid fb
  clear sa sb fa fb
  have La := Lib.hid (by omega : xs.length ≤ 200)
  have Lb := Lib.hid (by omega : ys.length ≤ 200)
  go_enter Try.func5, Try.ntmps5
  go_wp2_with fail
  refine (sShown _).mono ?_
  rintro e w1 ⟨rfl, hb⟩
  have BB := Lib.hid hb
  have Sa := Lib.hid (Sa.out.below hb)
  have Sb := Lib.hid (Sb.out.below hb)
  clear hb
  go_wp2_with fail
  refine (sFew a b xs.length ys.length ca cb _ (by omega) (by omega)).mono ?_
  rintro e w2 ⟨rfl, rfl⟩
  rw [decide_eq_true q]
  go_wp2_with fail
  refine (rRight a _ ca (xs) _ rfl (by have := La.out; omega) Sa.out).mono ?_
  rintro e w3 ⟨rfl, hb⟩
  have BB := Lib.hid (BB.out.trans (hb.mono BB.out.size))
  have Sa := Lib.hid (Sa.out.below hb)
  have Sb := Lib.hid (Sb.out.below hb)
  clear hb
  rw [decide_eq_true i1]
  go_wp2_with fail
  refine (rRight b _ cb (ys) _ rfl (by have := Lb.out; omega) Sb.out).mono ?_
  rintro e w4 ⟨rfl, hb⟩
  have BB := Lib.hid (BB.out.trans (hb.mono BB.out.size))
  have Sa := Lib.hid (Sa.out.below hb)
  have Sb := Lib.hid (Sb.out.below hb)
  clear hb
  rw [decide_eq_false i2]
  go_wp2_with fail
  go_ret
  exact ⟨rfl, BB.out⟩
set_option linter.unusedSimpArgs false in
set_option maxRecDepth 100000 in
set_option maxHeartbeats 8000000 in
theorem walk3 (w : World) (a : Option Addr) (ca : Nat) (xs : List Int) (sa : As w a xs) (fa : Flat a xs.length ca) (na : xs.length ≤ 1125899906842624) (b : Option Addr) (cb : Nat) (ys : List Int) (sb : As w b ys) (fb : Flat b ys.length cb) (nb : ys.length ≤ 1125899906842624) (x : Int) (hx : 0 ≤ x ∧ x ≤ 4294967295) (q : xs.length + ys.length ≤ 200) (i1 : Inc xs) (i2 : Inc ys) :
    Calls Try.prog 5 #[.slice a xs.length ca, .slice b ys.length cb, .int .u32 x] w fun e w' => e = .returned (.bool true) ∧ Below w.heap.size w w' := by
  have Sa := Lib.hid sa
  have Fa := Lib.hid fa
  have Sb := Lib.hid sb
  have Fb := Lib.hid fb
  clear sa sb fa fb
  have La := Lib.hid (by omega : xs.length ≤ 200)
  have Lb := Lib.hid (by omega : ys.length ≤ 200)
  have P := Lib.hid (parts_len i1 i2)
  have I1 := Lib.hid i1
  have I2 := Lib.hid i2
  clear i1 i2
  go_enter Try.func5, Try.ntmps5
  go_wp2_with fail
  refine (sShown _).mono ?_
  rintro e w1 ⟨rfl, hb⟩
  have BB := Lib.hid hb
  have Sa := Lib.hid (Sa.out.below hb)
  have Sb := Lib.hid (Sb.out.below hb)
  clear hb
  go_wp2_with fail
  refine (sFew a b xs.length ys.length ca cb _ (by omega) (by omega)).mono ?_
  rintro e w2 ⟨rfl, rfl⟩
  rw [decide_eq_true q]
  go_wp2_with fail
  refine (rRight a _ ca (xs) _ rfl (by have := La.out; omega) Sa.out).mono ?_
  rintro e w3 ⟨rfl, hb⟩
  have BB := Lib.hid (BB.out.trans (hb.mono BB.out.size))
  have Sa := Lib.hid (Sa.out.below hb)
  have Sb := Lib.hid (Sb.out.below hb)
  clear hb
  rw [decide_eq_true I1.out]
  go_wp2_with fail
  refine (rRight b _ cb (ys) _ rfl (by have := Lb.out; omega) Sb.out).mono ?_
  rintro e w4 ⟨rfl, hb⟩
  have BB := Lib.hid (BB.out.trans (hb.mono BB.out.size))
  have Sa := Lib.hid (Sa.out.below hb)
  have Sb := Lib.hid (Sb.out.below hb)
  clear hb
  rw [decide_eq_true I2.out]
  go_wp2_with fail
  refine (sUnion a b _ _ ca cb (xs) (ys) _ rfl rfl (by have := La.out; omega) (by have := Lb.out; omega) Sa.out Sb.out).mono ?_
  rintro e w5 ⟨⟨au, cu, rfl, hA, hF⟩, hb⟩
  have BB := Lib.hid (BB.out.trans (hb.mono BB.out.size))
  have Sa := Lib.hid (Sa.out.below hb)
  have Sb := Lib.hid (Sb.out.below hb)
  have Su := Lib.hid hA
  have Fu := Lib.hid hF
  have Lu := Lib.hid ((by have h1 := La.out; have h2 := Lb.out; have h3 := those_len (fun p q => p || q) (xs) (ys); change (uni (xs) (ys)).length ≤ _ at h3; omega : (uni xs ys).length ≤ 400))
  clear hb hA hF
  go_wp2_with fail
  refine (sInter a b _ _ ca cb (xs) (ys) _ rfl rfl (by have := La.out; omega) (by have := Lb.out; omega) Sa.out Sb.out).mono ?_
  rintro e w6 ⟨⟨ai, ci, rfl, hA, hF⟩, hb⟩
  have BB := Lib.hid (BB.out.trans (hb.mono BB.out.size))
  have Sa := Lib.hid (Sa.out.below hb)
  have Sb := Lib.hid (Sb.out.below hb)
  have Su := Lib.hid (Su.out.below hb)
  have Si := Lib.hid hA
  have Fi := Lib.hid hF
  have Li := Lib.hid (Nat.le_trans (int_len (xs) (ys)) La.out)
  clear hb hA hF
  go_wp2_with fail
  refine (sMinus a b _ _ ca cb (xs) (ys) _ rfl rfl (by have := La.out; omega) (by have := Lb.out; omega) Sa.out Sb.out).mono ?_
  rintro e w7 ⟨⟨am, cm, rfl, hA, hF⟩, hb⟩
  have BB := Lib.hid (BB.out.trans (hb.mono BB.out.size))
  have Sa := Lib.hid (Sa.out.below hb)
  have Sb := Lib.hid (Sb.out.below hb)
  have Su := Lib.hid (Su.out.below hb)
  have Si := Lib.hid (Si.out.below hb)
  have Sm := Lib.hid hA
  have Fm := Lib.hid hF
  have Lm := Lib.hid (Nat.le_trans (dif_len (xs) (ys)) La.out)
  clear hb hA hF
  go_wp2_with fail
  refine (sMinus b a _ _ cb ca (ys) (xs) _ rfl rfl (by have := Lb.out; omega) (by have := La.out; omega) Sb.out Sa.out).mono ?_
  rintro e w8 ⟨⟨an, cn, rfl, hA, hF⟩, hb⟩
  have BB := Lib.hid (BB.out.trans (hb.mono BB.out.size))
  have Sa := Lib.hid (Sa.out.below hb)
  have Sb := Lib.hid (Sb.out.below hb)
  have Su := Lib.hid (Su.out.below hb)
  have Si := Lib.hid (Si.out.below hb)
  have Sm := Lib.hid (Sm.out.below hb)
  have Sn := Lib.hid hA
  have Fn := Lib.hid hF
  have Ln := Lib.hid (Nat.le_trans (dif_len (ys) (xs)) Lb.out)
  clear hb hA hF
  go_wp2_with fail
  refine (rRight au _ cu (uni xs ys) _ rfl (by have := Lu.out; omega) Su.out).mono ?_
  rintro e w9 ⟨rfl, hb⟩
  have BB := Lib.hid (BB.out.trans (hb.mono BB.out.size))
  have Sa := Lib.hid (Sa.out.below hb)
  have Sb := Lib.hid (Sb.out.below hb)
  have Su := Lib.hid (Su.out.below hb)
  have Si := Lib.hid (Si.out.below hb)
  have Sm := Lib.hid (Sm.out.below hb)
  have Sn := Lib.hid (Sn.out.below hb)
  clear hb
  rw [decide_eq_true (uni_inc I1.out I2.out)]
  go_wp2_with fail
  refine (rRight ai _ ci (int xs ys) _ rfl (by have := Li.out; omega) Si.out).mono ?_
  rintro e w10 ⟨rfl, hb⟩
  have BB := Lib.hid (BB.out.trans (hb.mono BB.out.size))
  have Sa := Lib.hid (Sa.out.below hb)
  have Sb := Lib.hid (Sb.out.below hb)
  have Su := Lib.hid (Su.out.below hb)
  have Si := Lib.hid (Si.out.below hb)
  have Sm := Lib.hid (Sm.out.below hb)
  have Sn := Lib.hid (Sn.out.below hb)
  clear hb
  rw [decide_eq_true (int_inc I1.out I2.out)]
  go_wp2_with fail
  refine (rRight am _ cm (dif xs ys) _ rfl (by have := Lm.out; omega) Sm.out).mono ?_
  rintro e w11 ⟨rfl, hb⟩
  have BB := Lib.hid (BB.out.trans (hb.mono BB.out.size))
  have Sa := Lib.hid (Sa.out.below hb)
  have Sb := Lib.hid (Sb.out.below hb)
  have Su := Lib.hid (Su.out.below hb)
  have Si := Lib.hid (Si.out.below hb)
  have Sm := Lib.hid (Sm.out.below hb)
  have Sn := Lib.hid (Sn.out.below hb)
  clear hb
  rw [decide_eq_true (dif_inc I1.out I2.out)]
  go_wp2_with fail
  refine (rRight an _ cn (dif ys xs) _ rfl (by have := Ln.out; omega) Sn.out).mono ?_
  rintro e w12 ⟨rfl, hb⟩
  have BB := Lib.hid (BB.out.trans (hb.mono BB.out.size))
  have Sa := Lib.hid (Sa.out.below hb)
  have Sb := Lib.hid (Sb.out.below hb)
  have Su := Lib.hid (Su.out.below hb)
  have Si := Lib.hid (Si.out.below hb)
  have Sm := Lib.hid (Sm.out.below hb)
  have Sn := Lib.hid (Sn.out.below hb)
  clear hb
  rw [decide_eq_true (dif_inc I2.out I1.out)]
  go_wp2_with fail
  refine (sHas a _ ca (xs) x _ rfl (by have := La.out; omega) Sa.out).mono ?_
  rintro e w13 ⟨rfl, rfl⟩
  go_wp2_with fail
  refine (sHas b _ cb (ys) x _ rfl (by have := Lb.out; omega) Sb.out).mono ?_
  rintro e w14 ⟨rfl, rfl⟩
  have hP := P.out
  have hu := Lu.out
  have hi := Li.out
  have hm := Lm.out
  have hn := Ln.out
  generalize hgu : (uni xs ys).length = lu at *
  generalize hgi : (int xs ys).length = li at *
  generalize hgm : (dif xs ys).length = lm at *
  generalize hgn : (dif ys xs).length = ln at *
  have HGU := Lib.hid hgu
  have HGI := Lib.hid hgi
  have HGM := Lib.hid hgm
  clear hgu hgi hgm hgn P
  have e1 : ((li : Int) + (lm : Int) + (ln : Int) == (lu : Int)) = true := by rw [beq_iff_eq]; omega
  have m1 := Lib.hid (uni_mem I1.out I2.out x)
  have m2 := Lib.hid (int_mem I1.out I2.out x)
  have m3 := Lib.hid (dif_mem I1.out I2.out x)
  have U1 : Hid (decide (x ∈ uni xs ys) = (decide (x ∈ xs) || decide (x ∈ ys))) := Lib.hid (by rw [Bool.eq_iff_iff]; simp [m1.out])
  have U2 : Hid (decide (x ∈ int xs ys) = (decide (x ∈ xs) && decide (x ∈ ys))) := Lib.hid (by rw [Bool.eq_iff_iff]; simp [m2.out])
  have U3 : Hid (decide (x ∈ dif xs ys) = (decide (x ∈ xs) && !decide (x ∈ ys))) := Lib.hid (by rw [Bool.eq_iff_iff]; simp [m3.out])
  clear m1 m2 m3
  cases h1 : decide (x ∈ xs) <;> cases h2 : decide (x ∈ ys)
  all_goals
    simp only [h1, h2, Bool.or_self, Bool.or_true, Bool.true_or, Bool.or_false, Bool.false_or, Bool.and_true, Bool.true_and, Bool.and_false, Bool.false_and, Bool.not_true, Bool.not_false, Bool.and_self] at U1 U2 U3
    clear h1 h2
    go_wp2_with fail
    refine (sHas au lu cu (uni xs ys) x _ HGU.out (by omega) Su.out).mono ?_
    rintro e w15 ⟨rfl, rfl⟩
    rw [U1.out]
    go_wp2_with fail
    refine (sHas ai li ci (int xs ys) x _ HGI.out (by omega) Si.out).mono ?_
    rintro e w16 ⟨rfl, rfl⟩
    rw [U2.out]
    go_wp2_with fail
    refine (sHas am lm cm (dif xs ys) x _ HGM.out (by omega) Sm.out).mono ?_
    rintro e w17 ⟨rfl, rfl⟩
    rw [U3.out]
    go_wp2_with fail
    go_ret
    exact ⟨rfl, BB.out⟩
theorem walk (w : World) (a : Option Addr) (ca : Nat) (xs : List Int) (sa : As w a xs) (fa : Flat a xs.length ca) (na : xs.length ≤ 1125899906842624) (b : Option Addr) (cb : Nat) (ys : List Int) (sb : As w b ys) (fb : Flat b ys.length cb) (nb : ys.length ≤ 1125899906842624) (x : Int) (hx : 0 ≤ x ∧ x ≤ 4294967295) :
    Calls Try.prog 5 #[.slice a xs.length ca, .slice b ys.length cb, .int .u32 x] w fun e w' => e = .returned (.bool true) ∧ Below w.heap.size w w' := by
  by_cases q : xs.length + ys.length ≤ 200
  · by_cases i1 : Inc xs
    · by_cases i2 : Inc ys
      · exact walk3 w a ca xs sa fa na b cb ys sb fb nb x hx q i1 i2
      · exact walk2 w a ca xs sa fa na b cb ys sb fb nb x hx q i1 i2
    · exact walk1 w a ca xs sa fa na b cb ys sb fb nb x hx q i1
  · exact walk0 w a ca xs sa fa na b cb ys sb fb nb x hx q

theorem contract (H : Type) (enc : TypeId × Value → H) (W : World) (base : Nat) (args : Array Value) (ds gs : List (DataW H)) (before : List MemPlace)
    (hval : ∀ (j : Nat) t v, Try.f5.params[j]? = some t → args[j]? = some v → Value.okWide Try.prog W .any base t v)
    (hW : DataW.Whole enc Try.prog Try.f5.params.toList Rows.setPartsSpec.vars false W args.toList ds gs before) (hsz : (DataW.weightsEach Try.prog (Try.f5.params.toList ++ Rows.setPartsSpec.plain.varTypes Try.prog) (ds ++ gs)).all (· ≤ reachBytes) = true) :
    Calls Try.prog 5 args W fun e W' => ∃ v, e = .returned v ∧ Rows.setPartsSpec.post enc Try.prog Try.f5 false true false false W args v W' := by
  have hW' := hW
  obtain ⟨p, q, hA0, hV, rfl, hfz, hnd⟩ := hW
  have hA : DataW.TrodAll enc Try.prog W 0 (fun _ => true) true Try.f5.params.toList args.toList ds p := hA0
  rw [Try.params5] at hA hval
  obtain ⟨v0, vs0, d0, ds0, p0, q0, hargs, rfl, rfl, h0, r0⟩ := trodAll_cons hA
  obtain ⟨v1, vs1, d1, ds1, p1, q1, rfl, rfl, rfl, h1, r1⟩ := trodAll_cons r0
  obtain ⟨v2, vs2, d2, ds2, p2, q2, rfl, rfl, rfl, h2, r2⟩ := trodAll_cons r1
  obtain ⟨rfl, rfl, rfl⟩ := trodAll_nil r2
  obtain rfl : args = #[v0, v1, v2] := by cases args; simp_all
  obtain ⟨rfl, rfl⟩ := trodVars_none hV
  have k0 := h0
  have lt0 : ∀ x ∈ p0, x.block < W.heap.size := by obtain ⟨m, hm⟩ := k0; exact DataW.trod_lt m _ _ _ hm
  have k1 := h1
  have lt1 : ∀ x ∈ p1, x.block < W.heap.size := by obtain ⟨m, hm⟩ := k1; exact DataW.trod_lt m _ _ _ hm
  have k2 := h2
  have lt2 : ∀ x ∈ p2, x.block < W.heap.size := by obtain ⟨m, hm⟩ := k2; exact DataW.trod_lt m _ _ _ hm
  obtain ⟨a0, c0, x0, rfl, s0, f0, n0⟩ := open_top (hval 0 22 v0 rfl rfl) h0 (fun x hx => by simpa using List.all_eq_true.1 hsz _ (DataW.weights_mem_each (j := 0) rfl rfl x hx))
  obtain ⟨a1, c1, x1, rfl, s1, f1, n1⟩ := open_top (hval 1 22 v1 rfl rfl) h1 (fun x hx => by simpa using List.all_eq_true.1 hsz _ (DataW.weights_mem_each (j := 1) rfl rfl x hx))
  obtain ⟨a2, rfl, rfl, rfl, w2⟩ := open_int Try.underlying24 (hval 2 24 v2 rfl rfl) h2
  clear hA0
  refine (walk W a0 c0 x0 s0 f0 n0 a1 c1 x1 s1 f1 n1 a2 (bounds_u32 w2)).mono fun e W' ⟨he, bel⟩ => ?_
  subst he
  exact ⟨_, rfl, _, _, _, [], _, [], hW', trodAll_mk1 (shut_bool Try.underlying4 _), (trodAll_cons_mk (Below.trod laidOut (by kernel_rfl) (of_decide_eq_true (by kernel_rfl)) k0 bel lt0) (trodAll_cons_mk (Below.trod laidOut (by kernel_rfl) (of_decide_eq_true (by kernel_rfl)) k1 bel lt1) (trodAll_cons_mk (Below.trod laidOut (by kernel_rfl) (of_decide_eq_true (by kernel_rfl)) k2 bel lt2) trodAll_mk0))), rfl, bel.frame _, fun h => by cases h⟩

set_option maxRecDepth 100000 in
theorem lifted (os : Os) (started : os.Started) (H : Type) (enc : TypeId × Value → H) :
    ReturnsInHanded {} Try.checked os 5 .any (Rows.setPartsSpec.pre6 enc Try.prog Try.f5 Rows.setPartsRow.domain false) (Rows.setPartsSpec.post enc Try.prog Try.f5 false true false false) := by
  refine returnsInHanded_of_change_sized (C := Try.checked) own started (by kernel_rfl) Try.func5
    (ChangeSpec.witness6 (enc := enc) (C := Try.checked) false ⟨#[], #[(.slice none 0 0), (.slice none 0 0), (.int .u32 0)], []⟩ 8 (by kernel_rfl) (by kernel_rfl) (by kernel_rfl) (by kernel_rfl)) ?_
  intro W base args ds gs before hval hW hcnd hsz _
  exact contract H enc W base args ds gs before hval hW hsz
theorem said : Rows.SetPartsSaid :=
  OpenClaim.holds_of_wide 5 Try.f5 rfl rfl rfl rfl rfl rfl rfl ⟨rfl, rfl, rfl, rfl, rfl⟩ rfl rfl rfl rfl rfl (by kernel_rfl) Try.func5 (by kernel_rfl)
    (of_decide_eq_true (by kernel_rfl)) (by unfold Func.isWrapper; first | (rw [if_pos (by decide +kernel)]; kernel_rfl) | (rw [if_neg (by decide +kernel)]; exact ⟨rfl, rfl⟩))
    (fun os started H enc _ => lifted os started H enc)
#print axioms said
end Go.Proofs.Ytikanaabecmkcaa.setParts
