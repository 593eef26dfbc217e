/- The law SetMakes: every call returns true, and its arguments read behind the call as before it. Condition: none but the row's own. -/
import Derived.Test.YtikanaabecmkcaaPl
namespace Go.Proofs.Ytikanaabecmkcaa.setMakes
set_option linter.unusedVariables false
open Go.ChangeShapes Go.WideShapes Go.ChangeAt Go.RowKit
open Go.ChangeMaps (open_string shut_string)

theorem M1 (a b : List Int) : mk (a ++ b) = uni (mk a) (mk b) := inc_ext (mk_inc _) (uni_inc (mk_inc _) (mk_inc _)) fun x => by rw [mk_mem, uni_mem (mk_inc _) (mk_inc _), mk_mem, mk_mem, List.mem_append]
theorem M2 (x : Int) (a : List Int) : decide (x ∈ mk a) = decide (x ∈ a) := decide_eq_decide.2 (mk_mem x a)
theorem M3 (x : Int) {a : List Int} {k : Nat} (h : k < a.length) : decide (x ∈ a.take (k + 1)) = (decide (x ∈ a.take k) || (a.getD k 0 == x)) := by
  rw [Bool.eq_iff_iff, List.take_add_one, List.getElem?_eq_getElem h, List.getD_eq_getElem?_getD, List.getElem?_eq_getElem h]
  have e : (x = a[k]) ↔ (a[k] = x) := eq_comm
  simp only [List.mem_append, Option.toList, List.mem_singleton, decide_eq_true_eq, Bool.or_eq_true, beq_iff_eq, Option.getD_some, e]
theorem isA_app {a b : List Int} (h1 : IsA a) (h2 : IsA b) : IsA (a ++ b) := isA_iff.2 fun z hz => (List.mem_append.1 hz).elim (isA_iff.1 h1 z) (isA_iff.1 h2 z)
theorem flat_nil {a : Option Addr} {n c : Nat} (h : Flat a n c) : a = none → c = 0 := by
  rintro rfl
  rcases h with ⟨_, _, h⟩ | ⟨_, _, h⟩
  · exact h
  · cases h
theorem own_new (w : World) (B : Nat) (hB : B ≤ w.heap.size) : (w.alloc (.cells #[] 24)).ownsRow B 24 1 (.slice (some ⟨w.heap.size, 0, none⟩) 0 0) 0 [] :=
  ⟨rfl, .inr ⟨_, 0, #[], rfl, hB, Go.Deep.blk_alloc_new _ _, Nat.le_refl _, by decide, rfl, rfl⟩⟩
set_option linter.unusedSimpArgs false in
set_option maxRecDepth 100000 in
set_option maxHeartbeats 8000000 in
theorem walk0 (w : World) (a : Option Addr) (ca : Nat) (xs : List Int) (sa : As w a xs) (fa : Flat a xs.length ca) (na : xs.length ≤ 1125899906842624) (b : Option Addr) (cb : Nat) (ys : List Int) (sb : As w b ys) (fb : Flat b ys.length cb) (nb : ys.length ≤ 1125899906842624) (x : Int) (hx : 0 ≤ x ∧ x ≤ 4294967295) (q : ¬ xs.length + ys.length ≤ 200) :
    Calls Try.prog 8 #[.slice a xs.length ca, .slice b ys.length cb, .int .u32 x] w fun e w' => e = .returned (.bool true) ∧ Below w.heap.size w w' := by
  have Sa := Lib.hid sa
  have Fa := Lib.hid fa
  have Sb := Lib.hid sb
  have Fb := Lib.hid fb
  clear sa sb fa fb
  go_enter Try.func8, Try.ntmps8
  go_wp2_with fail
  refine (sShown _).mono ?_
  rintro e w1 ⟨rfl, hb⟩
  have BB := Lib.hid hb
  have Sa := Lib.hid (Sa.out.below hb)
  have Sb := Lib.hid (Sb.out.below hb)
  clear hb
  go_wp2_with fail
  refine (sFew a b xs.length ys.length ca cb _ (by omega) (by omega)).mono ?_
  rintro e w2 ⟨rfl, rfl⟩
  rw [decide_eq_false q]
  go_wp2_with fail
  go_ret
  exact ⟨rfl, BB.out⟩
set_option linter.unusedSimpArgs false in
set_option maxRecDepth 100000 in
set_option maxHeartbeats 8000000 in
theorem walk1 (w : World) (a : Option Addr) (ca : Nat) (xs : List Int) (sa : As w a xs) (fa : Flat a xs.length ca) (na : xs.length ≤ 1125899906842624) (b : Option Addr) (cb : Nat) (ys : List Int) (sb : As w b ys) (fb : Flat b ys.length cb) (nb : ys.length ≤ 1125899906842624) (x : Int) (hx : 0 ≤ x ∧ x ≤ 4294967295) (q : xs.length + ys.length ≤ 200) :
    Calls Try.prog 8 #[.slice a xs.length ca, .slice b ys.length cb, .int .u32 x] w fun e w' => e = .returned (.bool true) ∧ Below w.heap.size w w' := by
  have Sa := Lib.hid sa
  have Fa := Lib.hid fa
  have Sb := Lib.hid sb
  have Fb := Lib.hid fb
  clear sa sb fa fb
  have La := Lib.hid (by omega : xs.length ≤ 200)
  have Lb := Lib.hid (by omega : ys.length ≤ 200)
  obtain ⟨n, hn⟩ : ∃ n, xs.length = n := ⟨_, rfl⟩
  obtain ⟨m, hm⟩ : ∃ m, ys.length = m := ⟨_, rfl⟩
  have HN := Lib.hid hn
  have HM := Lib.hid hm
  rw [hn] at q na ⊢
  rw [hm] at q nb ⊢
  rw [hn] at Fa
  rw [hm] at Fb
  clear hn hm
  go_enter Try.func8, Try.ntmps8
  go_wp2_with fail
  refine (sShown _).mono ?_
  rintro e w1 ⟨rfl, hb⟩
  have BB := Lib.hid hb
  have Sa := Lib.hid (Sa.out.below hb)
  have Sb := Lib.hid (Sb.out.below hb)
  clear hb
  go_wp2_with fail
  refine (sFew a b n m ca cb _ (by omega) (by omega)).mono ?_
  rintro e w2 ⟨rfl, rfl⟩
  rw [decide_eq_true q]
  go_wp2_with fail
  refine (sMake a n ca xs _ HN.out (by omega) Sa.out Fa.out).mono ?_
  rintro e w3 ⟨⟨am, cm, rfl, hA, hF⟩, hb⟩
  have BB := Lib.hid (BB.out.trans (hb.mono BB.out.size))
  have Sa := Lib.hid (Sa.out.below hb)
  have Sb := Lib.hid (Sb.out.below hb)
  have Sm := Lib.hid hA
  have Fm := Lib.hid hF
  have Lm := Lib.hid (Nat.le_trans (mk_len xs) La.out)
  clear hb hA hF
  go_wp2_with fail
  go_loopw [9, 10] (fun v9 v10 wr => ∃ k : Nat, v9 = .bool (decide (x ∈ xs.take k)) ∧ v10 = .int .i64 (k : Int) ∧ k ≤ n ∧ wr = w3) (fun _ v _ => n - (intOf v).toNat)
  case atStart => exact ⟨0, by simp, rfl, by omega, rfl⟩
  case round =>
    obtain ⟨k, rfl, rfl, hk, rfl⟩ := hrel
    by_cases hlt : k < n
    · obtain ⟨b', off, rfl, hc⟩ := Sa.out.at (k := k) (by rw [HN.out]; exact hlt)
      have c1 := hc k (by rw [HN.out]; exact hlt)
      have hkz : (k : Int) < (n : Int) := by omega
      have h3 := Lib.hid (M3 x (a := xs) (k := k) (by rw [HN.out]; exact hlt))
      clear hc
      cases hin : decide (x ∈ xs.take k)
      · cases he : (xs.getD k 0 == x)
        all_goals
          have h4 := Lib.hid (h3.out.trans (by rw [hin, he]))
          generalize xs.getD k 0 = y at *
          clear h3 hin
          go_wp2_with fail
          go_roundw
          case rel => exact ⟨k + 1, by rw [h4.out]; rfl, by go_num, by omega, by first | rfl | trivial⟩
          case measure => simp [intOf]; omega
      · have h4 := Lib.hid (h3.out.trans (by rw [hin, Bool.true_or]) : _ = true)
        clear h3 hin c1
        go_wp2_with fail
        go_roundw
        case rel => exact ⟨k + 1, by rw [h4.out], by go_num, by omega, by first | rfl | trivial⟩
        case measure => simp [intOf]; omega
    · obtain rfl : k = n := by omega
      rw [List.take_of_length_le (by rw [HN.out]; exact Nat.le_refl _)]
      cases hin : decide (x ∈ xs)
      all_goals
    have IM := Lib.hid (M2 x xs)
    rw [hin] at IM
    clear hin
    go_wp2_with (first | (refine wpList_app_as rfl (.tmp 35) (.tmp 36) rfl wr.heap.size _ 0 [] rfl (own_new wr wr.heap.size (Nat.le_refl _)) rfl a k ca xs rfl HN.out (Sa.out.below (bel1 wr _)) (flat_nil Fa.out) (by omega) (by simp) ?_; intro a1 c1 wa o1 g1; have G1 := Lib.hid ((bel1 wr _).trans (grown_below (own_new wr wr.heap.size (Nat.le_refl _)) g1.out (by simp))); clear g1; have o1 := o1.out; rw [Nat.zero_add, List.nil_append] at o1; have O1 := Lib.hid o1; clear o1) | (refine wpList_app_as rfl (.tmp 37) (.tmp 38) rfl wr.heap.size _ k xs rfl O1.out HN.out b m cb ys rfl HM.out (Sb.out.below G1.out) (flat_nil Fb.out) (by omega) G1.out.size ?_; intro a2 c2 wb o2 g2; have G2 := Lib.hid (G1.out.trans (grown_below O1.out g2.out G1.out.size)); clear g2))
    have hSp := (AsO.of (by simp [HN.out, HM.out]) o2.out).as (isA_app Sa.out.2 Sb.out.2)
    have hFp : Flat a2 (k + m) c2 := (by obtain ⟨_, _, e, f⟩ := own_sl o2.out; cases e; exact f)
    have Fp := Lib.hid hFp
    have Sp := Lib.hid hSp
    clear hSp hFp o2 O1 G1
    have BB := Lib.hid (BB.out.trans (G2.out.mono BB.out.size))
    have Sa := Lib.hid (Sa.out.below G2.out)
    have Sb := Lib.hid (Sb.out.below G2.out)
    have Sm := Lib.hid (Sm.out.below G2.out)
    clear G2
    have hle : ((mk xs).length : Int) ≤ (k : Int) := (by have := mk_len xs; have := HN.out; omega)
    go_wp2_with fail
    refine (sMake a2 _ c2 (xs ++ ys) _ (by rw [List.length_append, HN.out, HM.out]) (by omega) Sp.out Fp.out).mono ?_
    rintro e w4 ⟨⟨att, ctt, rfl, hA, hF⟩, hb⟩
    have BB := Lib.hid (BB.out.trans (hb.mono BB.out.size))
    have Sa := Lib.hid (Sa.out.below hb)
    have Sb := Lib.hid (Sb.out.below hb)
    have Sm := Lib.hid (Sm.out.below hb)
    have Stt := Lib.hid hA
    have Ftt := Lib.hid hF
    have Ltt := Lib.hid ((by have h1 := mk_len (xs ++ ys); have h2 := HN.out; have h3 := HM.out; rw [List.length_append] at h1; omega : (mk (xs ++ ys)).length ≤ 400))
    clear hb hA hF
    clear Sp Fp
    go_wp2_with fail
    refine (rRight am _ cm (mk xs) _ rfl (by have := Lm.out; omega) Sm.out).mono ?_
    rintro e w5 ⟨rfl, hb⟩
    have BB := Lib.hid (BB.out.trans (hb.mono BB.out.size))
    have Sa := Lib.hid (Sa.out.below hb)
    have Sb := Lib.hid (Sb.out.below hb)
    have Sm := Lib.hid (Sm.out.below hb)
    have Stt := Lib.hid (Stt.out.below hb)
    clear hb
    rw [decide_eq_true (mk_inc xs)]
    go_wp2_with fail
    refine (sHas am _ cm (mk xs) x _ rfl (by have := Lm.out; omega) Sm.out).mono ?_
    rintro e w6 ⟨rfl, rfl⟩
    rw [IM.out]
    go_wp2_with fail
    refine (sMake am _ cm (mk xs) _ rfl (by have := Lm.out; omega) Sm.out Fm.out).mono ?_
    rintro e w7 ⟨⟨am2, cm2, rfl, hA, hF⟩, hb⟩
    have BB := Lib.hid (BB.out.trans (hb.mono BB.out.size))
    have Sa := Lib.hid (Sa.out.below hb)
    have Sb := Lib.hid (Sb.out.below hb)
    have Sm := Lib.hid (Sm.out.below hb)
    have Stt := Lib.hid (Stt.out.below hb)
    have Sm2 := Lib.hid hA
    have Fm2 := Lib.hid hF
    have Lm2 := Lib.hid (Nat.le_trans (mk_len (mk xs)) Lm.out)
    clear hb hA hF
    go_wp2_with fail
    refine (sSame am2 am _ _ cm2 cm (mk (mk xs)) (mk xs) _ rfl rfl (by have := Lm2.out; omega) Sm2.out Sm.out).mono ?_
    rintro e w8 ⟨rfl, hb⟩
    have BB := Lib.hid (BB.out.trans (hb.mono BB.out.size))
    have Sa := Lib.hid (Sa.out.below hb)
    have Sb := Lib.hid (Sb.out.below hb)
    have Sm := Lib.hid (Sm.out.below hb)
    have Stt := Lib.hid (Stt.out.below hb)
    have Sm2 := Lib.hid (Sm2.out.below hb)
    clear hb
    rw [decide_eq_true (mk_of (mk_inc xs))]
    clear Sm2 Fm2 Lm2
    go_wp2_with fail
    refine (sMake b m cb ys _ HM.out (by omega) Sb.out Fb.out).mono ?_
    rintro e w9 ⟨⟨amb, cmb, rfl, hA, hF⟩, hb⟩
    have BB := Lib.hid (BB.out.trans (hb.mono BB.out.size))
    have Sa := Lib.hid (Sa.out.below hb)
    have Sb := Lib.hid (Sb.out.below hb)
    have Sm := Lib.hid (Sm.out.below hb)
    have Stt := Lib.hid (Stt.out.below hb)
    have Smb := Lib.hid hA
    have Fmb := Lib.hid hF
    have Lmb := Lib.hid (Nat.le_trans (mk_len ys) Lb.out)
    clear hb hA hF
    go_wp2_with fail
    refine (sUnion am amb _ _ cm cmb (mk xs) (mk ys) _ rfl rfl (by have := Lm.out; omega) (by have := Lmb.out; omega) Sm.out Smb.out).mono ?_
    rintro e w10 ⟨⟨au, cu, rfl, hA, hF⟩, hb⟩
    have BB := Lib.hid (BB.out.trans (hb.mono BB.out.size))
    have Sa := Lib.hid (Sa.out.below hb)
    have Sb := Lib.hid (Sb.out.below hb)
    have Sm := Lib.hid (Sm.out.below hb)
    have Stt := Lib.hid (Stt.out.below hb)
    have Smb := Lib.hid (Smb.out.below hb)
    have Su := Lib.hid hA
    have Fu := Lib.hid hF
    have Lu := Lib.hid ((by have h1 := Lm.out; have h2 := Lmb.out; have h3 := those_len (fun p q => p || q) (mk xs) (mk ys); change (uni (mk xs) (mk ys)).length ≤ _ at h3; omega : (uni (mk xs) (mk ys)).length ≤ 400))
    clear hb hA hF
    go_wp2_with fail
    refine (sSame att au _ _ ctt cu (mk (xs ++ ys)) (uni (mk xs) (mk ys)) _ rfl rfl (by have := Ltt.out; omega) Stt.out Su.out).mono ?_
    rintro e w11 ⟨rfl, hb⟩
    have BB := Lib.hid (BB.out.trans (hb.mono BB.out.size))
    have Sa := Lib.hid (Sa.out.below hb)
    have Sb := Lib.hid (Sb.out.below hb)
    have Sm := Lib.hid (Sm.out.below hb)
    have Stt := Lib.hid (Stt.out.below hb)
    have Smb := Lib.hid (Smb.out.below hb)
    have Su := Lib.hid (Su.out.below hb)
    clear hb
    rw [decide_eq_true (M1 xs ys)]
    go_wp2_with fail
    go_ret
    exact ⟨rfl, BB.out⟩
theorem walk (w : World) (a : Option Addr) (ca : Nat) (xs : List Int) (sa : As w a xs) (fa : Flat a xs.length ca) (na : xs.length ≤ 1125899906842624) (b : Option Addr) (cb : Nat) (ys : List Int) (sb : As w b ys) (fb : Flat b ys.length cb) (nb : ys.length ≤ 1125899906842624) (x : Int) (hx : 0 ≤ x ∧ x ≤ 4294967295) :
    Calls Try.prog 8 #[.slice a xs.length ca, .slice b ys.length cb, .int .u32 x] w fun e w' => e = .returned (.bool true) ∧ Below w.heap.size w w' := by
  by_cases q : xs.length + ys.length ≤ 200
  · exact walk1 w a ca xs sa fa na b cb ys sb fb nb x hx q
  · exact walk0 w a ca xs sa fa na b cb ys sb fb nb x hx q

theorem contract (H : Type) (enc : TypeId × Value → H) (W : World) (base : Nat) (args : Array Value) (ds gs : List (DataW H)) (before : List MemPlace)
    (hval : ∀ (j : Nat) t v, Try.f8.params[j]? = some t → args[j]? = some v → Value.okWide Try.prog W .any base t v)
    (hW : DataW.Whole enc Try.prog Try.f8.params.toList Rows.setMakesSpec.vars false W args.toList ds gs before) (hsz : (DataW.weightsEach Try.prog (Try.f8.params.toList ++ Rows.setMakesSpec.plain.varTypes Try.prog) (ds ++ gs)).all (· ≤ reachBytes) = true) :
    Calls Try.prog 8 args W fun e W' => ∃ v, e = .returned v ∧ Rows.setMakesSpec.post enc Try.prog Try.f8 false true false false W args v W' := by
  have hW' := hW
  obtain ⟨p, q, hA0, hV, rfl, hfz, hnd⟩ := hW
  have hA : DataW.TrodAll enc Try.prog W 0 (fun _ => true) true Try.f8.params.toList args.toList ds p := hA0
  rw [Try.params8] at hA hval
  obtain ⟨v0, vs0, d0, ds0, p0, q0, hargs, rfl, rfl, h0, r0⟩ := trodAll_cons hA
  obtain ⟨v1, vs1, d1, ds1, p1, q1, rfl, rfl, rfl, h1, r1⟩ := trodAll_cons r0
  obtain ⟨v2, vs2, d2, ds2, p2, q2, rfl, rfl, rfl, h2, r2⟩ := trodAll_cons r1
  obtain ⟨rfl, rfl, rfl⟩ := trodAll_nil r2
  obtain rfl : args = #[v0, v1, v2] := by cases args; simp_all
  obtain ⟨rfl, rfl⟩ := trodVars_none hV
  have k0 := h0
  have lt0 : ∀ x ∈ p0, x.block < W.heap.size := by obtain ⟨m, hm⟩ := k0; exact DataW.trod_lt m _ _ _ hm
  have k1 := h1
  have lt1 : ∀ x ∈ p1, x.block < W.heap.size := by obtain ⟨m, hm⟩ := k1; exact DataW.trod_lt m _ _ _ hm
  have k2 := h2
  have lt2 : ∀ x ∈ p2, x.block < W.heap.size := by obtain ⟨m, hm⟩ := k2; exact DataW.trod_lt m _ _ _ hm
  obtain ⟨a0, c0, x0, rfl, s0, f0, n0⟩ := open_top (hval 0 22 v0 rfl rfl) h0 (fun x hx => by simpa using List.all_eq_true.1 hsz _ (DataW.weights_mem_each (j := 0) rfl rfl x hx))
  obtain ⟨a1, c1, x1, rfl, s1, f1, n1⟩ := open_top (hval 1 22 v1 rfl rfl) h1 (fun x hx => by simpa using List.all_eq_true.1 hsz _ (DataW.weights_mem_each (j := 1) rfl rfl x hx))
  obtain ⟨a2, rfl, rfl, rfl, w2⟩ := open_int Try.underlying24 (hval 2 24 v2 rfl rfl) h2
  clear hA0
  refine (walk W a0 c0 x0 s0 f0 n0 a1 c1 x1 s1 f1 n1 a2 (bounds_u32 w2)).mono fun e W' ⟨he, bel⟩ => ?_
  subst he
  exact ⟨_, rfl, _, _, _, [], _, [], hW', trodAll_mk1 (shut_bool Try.underlying4 _), (trodAll_cons_mk (Below.trod laidOut (by kernel_rfl) (of_decide_eq_true (by kernel_rfl)) k0 bel lt0) (trodAll_cons_mk (Below.trod laidOut (by kernel_rfl) (of_decide_eq_true (by kernel_rfl)) k1 bel lt1) (trodAll_cons_mk (Below.trod laidOut (by kernel_rfl) (of_decide_eq_true (by kernel_rfl)) k2 bel lt2) trodAll_mk0))), rfl, bel.frame _, fun h => by cases h⟩

set_option maxRecDepth 100000 in
theorem lifted (os : Os) (started : os.Started) (H : Type) (enc : TypeId × Value → H) :
    ReturnsInHanded {} Try.checked os 8 .any (Rows.setMakesSpec.pre6 enc Try.prog Try.f8 Rows.setMakesRow.domain false) (Rows.setMakesSpec.post enc Try.prog Try.f8 false true false false) := by
  refine returnsInHanded_of_change_sized (C := Try.checked) own started (by kernel_rfl) Try.func8
    (ChangeSpec.witness6 (enc := enc) (C := Try.checked) false ⟨#[], #[(.slice none 0 0), (.slice none 0 0), (.int .u32 0)], []⟩ 8 (by kernel_rfl) (by kernel_rfl) (by kernel_rfl) (by kernel_rfl)) ?_
  intro W base args ds gs before hval hW hcnd hsz _
  exact contract H enc W base args ds gs before hval hW hsz
theorem said : Rows.SetMakesSaid :=
  OpenClaim.holds_of_wide 8 Try.f8 rfl rfl rfl rfl rfl rfl rfl ⟨rfl, rfl, rfl, rfl, rfl⟩ rfl rfl rfl rfl rfl (by kernel_rfl) Try.func8 (by kernel_rfl)
    (of_decide_eq_true (by kernel_rfl)) (by unfold Func.isWrapper; first | (rw [if_pos (by decide +kernel)]; kernel_rfl) | (rw [if_neg (by decide +kernel)]; exact ⟨rfl, rfl⟩))
    (fun os started H enc _ => lifted os started H enc)
#print axioms said
end Go.Proofs.Ytikanaabecmkcaa.setMakes
