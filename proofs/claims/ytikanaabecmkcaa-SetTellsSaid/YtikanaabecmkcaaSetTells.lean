/- The law SetTells: every call returns true, and its arguments read behind the call as before it. Condition: none but the row's own. -/
import Derived.Test.YtikanaabecmkcaaPl
import Derived.Test.YtikanaabecmkcaaPr
namespace Go.Proofs.Ytikanaabecmkcaa.setTells
set_option linter.unusedVariables false
open Go.ChangeShapes Go.WideShapes Go.ChangeAt Go.RowKit
open Go.ChangeMaps (open_string shut_string)

set_option linter.unusedSimpArgs false in
set_option maxRecDepth 100000 in
set_option maxHeartbeats 8000000 in
theorem walk0 (w : World) (a : Option Addr) (ca : Nat) (xs : List Int) (sa : As w a xs) (fa : Flat a xs.length ca) (na : xs.length ≤ 1125899906842624) (b : Option Addr) (cb : Nat) (ys : List Int) (sb : As w b ys) (fb : Flat b ys.length cb) (nb : ys.length ≤ 1125899906842624) (x : Int) (hx : 0 ≤ x ∧ x ≤ 4294967295) (q : ¬ xs.length + ys.length ≤ 200) :
    Calls Try.prog 3 #[.slice a xs.length ca, .slice b ys.length cb, .int .u32 x] w fun e w' => e = .returned (.bool true) ∧ Below w.heap.size w w' := by
  have Sa := Lib.hid sa
  have Fa := Lib.hid fa
  have Sb := Lib.hid sb
  have Fb := Lib.hid fb
  clear sa sb fa fb
  go_enter Try.func3, Try.ntmps3
  go_wp2_with fail
  refine (sShown _).mono ?_
  rintro e w1 ⟨rfl, hb⟩
  have BB := Lib.hid hb
  have Sa := Lib.hid (Sa.out.below hb)
  have Sb := Lib.hid (Sb.out.below hb)
  clear hb
  go_wp2_with fail
  refine (sFew a b xs.length ys.length ca cb _ (by omega) (by omega)).mono ?_
  rintro e w2 ⟨rfl, rfl⟩
  rw [decide_eq_false q]
  go_wp2_with fail
  go_ret
  exact ⟨rfl, BB.out⟩
set_option linter.unusedSimpArgs false in
set_option maxRecDepth 100000 in
set_option maxHeartbeats 8000000 in
theorem walk1 (w : World) (a : Option Addr) (ca : Nat) (xs : List Int) (sa : As w a xs) (fa : Flat a xs.length ca) (na : xs.length ≤ 1125899906842624) (b : Option Addr) (cb : Nat) (ys : List Int) (sb : As w b ys) (fb : Flat b ys.length cb) (nb : ys.length ≤ 1125899906842624) (x : Int) (hx : 0 ≤ x ∧ x ≤ 4294967295) (q : xs.length + ys.length ≤ 200) (i1 : ¬ Inc xs) :
    Calls Try.prog 3 #[.slice a xs.length ca, .slice b ys.length cb, .int .u32 x] w fun e w' => e = .returned (.bool true) ∧ Below w.heap.size w w' := by
  have Sa := Lib.hid sa
  have Fa := Lib.hid fa
  have Sb := Lib.hid sb
  have Fb := Lib.hid fb
  clear sa sb fa fb
  have La := Lib.hid (by omega : xs.length ≤ 200)
  have Lb := Lib.hid (by omega : ys.length ≤ 200)
  have I1 := Lib.hid i1
  clear i1
  obtain ⟨eb, heb⟩ : ∃ eb, decide (xs = ys) = eb := ⟨_, rfl⟩
  have HEB := Lib.hid heb
  clear heb
  go_enter Try.func3, Try.ntmps3
  go_wp2_with fail
  refine (sShown _).mono ?_
  rintro e w1 ⟨rfl, hb⟩
  have BB := Lib.hid hb
  have Sa := Lib.hid (Sa.out.below hb)
  have Sb := Lib.hid (Sb.out.below hb)
  clear hb
  go_wp2_with fail
  refine (sFew a b xs.length ys.length ca cb _ (by omega) (by omega)).mono ?_
  rintro e w2 ⟨rfl, rfl⟩
  rw [decide_eq_true q]
  go_wp2_with fail
  refine (sRight a _ ca xs _ rfl (by have := La.out; omega) Sa.out).mono ?_
  rintro e w3 ⟨rfl, hb⟩
  have BB := Lib.hid (BB.out.trans (hb.mono BB.out.size))
  have Sa := Lib.hid (Sa.out.below hb)
  have Sb := Lib.hid (Sb.out.below hb)
  clear hb
  rw [decide_eq_false I1.out]
  go_wp2_with fail
  refine (rRight a _ ca (xs) _ rfl (by have := La.out; omega) Sa.out).mono ?_
  rintro e w4 ⟨rfl, hb⟩
  have BB := Lib.hid (BB.out.trans (hb.mono BB.out.size))
  have Sa := Lib.hid (Sa.out.below hb)
  have Sb := Lib.hid (Sb.out.below hb)
  clear hb
  rw [decide_eq_false I1.out]
  go_wp2_with fail
  refine (sMake a _ ca (xs) _ rfl (by have := La.out; omega) Sa.out Fa.out).mono ?_
  rintro e w5 ⟨⟨am1, cm1, rfl, hA, hF⟩, hb⟩
  have BB := Lib.hid (BB.out.trans (hb.mono BB.out.size))
  have Sa := Lib.hid (Sa.out.below hb)
  have Sb := Lib.hid (Sb.out.below hb)
  have Sm1 := Lib.hid hA
  have Fm1 := Lib.hid hF
  have Lm1 := Lib.hid (Nat.le_trans (mk_len (xs)) La.out)
  clear hb hA hF
  go_wp2_with fail
  refine (rMake a _ ca xs _ rfl (by have := La.out; omega) Sa.out).mono ?_
  rintro e w6 ⟨⟨am2, cm2, rfl, hA, hF⟩, hb⟩
  have BB := Lib.hid (BB.out.trans (hb.mono BB.out.size))
  have Sa := Lib.hid (Sa.out.below hb)
  have Sb := Lib.hid (Sb.out.below hb)
  have Sm1 := Lib.hid (Sm1.out.below hb)
  have Sm2 := Lib.hid hA
  have Fm2 := Lib.hid hF
  have Lm2 := Lib.hid (Nat.le_trans (mk_len xs) La.out)
  clear hb hA hF
  go_wp2_with fail
  refine (rRows am1 am2 _ _ cm1 cm2 (mk xs) (mk xs) _ rfl rfl (by have := Lm1.out; omega) Sm1.out Sm2.out).mono ?_
  rintro e w7 ⟨rfl, hb⟩
  have BB := Lib.hid (BB.out.trans (hb.mono BB.out.size))
  have Sa := Lib.hid (Sa.out.below hb)
  have Sb := Lib.hid (Sb.out.below hb)
  have Sm1 := Lib.hid (Sm1.out.below hb)
  have Sm2 := Lib.hid (Sm2.out.below hb)
  clear hb
  rw [decide_eq_true (rfl : mk xs = mk xs)]
  clear Sm1 Fm1 Lm1
  clear Sm2 Fm2 Lm2
  go_wp2_with fail
  refine (sSame a b _ _ ca cb xs ys _ rfl rfl (by have := La.out; omega) Sa.out Sb.out).mono ?_
  rintro e w8 ⟨rfl, hb⟩
  have BB := Lib.hid (BB.out.trans (hb.mono BB.out.size))
  have Sa := Lib.hid (Sa.out.below hb)
  have Sb := Lib.hid (Sb.out.below hb)
  clear hb
  rw [HEB.out]
  go_wp2_with fail
  refine (rRows a b _ _ ca cb (xs) (ys) _ rfl rfl (by have := La.out; omega) Sa.out Sb.out).mono ?_
  rintro e w9 ⟨rfl, hb⟩
  have BB := Lib.hid (BB.out.trans (hb.mono BB.out.size))
  have Sa := Lib.hid (Sa.out.below hb)
  have Sb := Lib.hid (Sb.out.below hb)
  clear hb
  rw [HEB.out]
  go_wp2_with fail
  refine (rRight a _ ca (xs) _ rfl (by have := La.out; omega) Sa.out).mono ?_
  rintro e w10 ⟨rfl, hb⟩
  have BB := Lib.hid (BB.out.trans (hb.mono BB.out.size))
  have Sa := Lib.hid (Sa.out.below hb)
  have Sb := Lib.hid (Sb.out.below hb)
  clear hb
  rw [decide_eq_false I1.out]
  go_wp2_with fail
  go_ret
  exact ⟨rfl, BB.out⟩
set_option linter.unusedSimpArgs false in
set_option maxRecDepth 100000 in
set_option maxHeartbeats 8000000 in
theorem walk2 (w : World) (a : Option Addr) (ca : Nat) (xs : List Int) (sa : As w a xs) (fa : Flat a xs.length ca) (na : xs.length ≤ 1125899906842624) (b : Option Addr) (cb : Nat) (ys : List Int) (sb : As w b ys) (fb : Flat b ys.length cb) (nb : ys.length ≤ 1125899906842624) (x : Int) (hx : 0 ≤ x ∧ x ≤ 4294967295) (q : xs.length + ys.length ≤ 200) (i1 : Inc xs) (i2 : ¬ Inc ys) :
    Calls Try.prog 3 #[.slice a xs.length ca, .slice b ys.length cb, .int .u32 x] w fun e w' => e = .returned (.bool true) ∧ Below w.heap.size w w' := by
  have Sa := Lib.hid sa
  have Fa := Lib.hid fa
  have Sb := Lib.hid sb
  have Fb := Lib.hid fb
  clear sa sb fa fb
  have La := Lib.hid (by omega : xs.length ≤ 200)
  have Lb := Lib.hid (by omega : ys.length ≤ 200)
  have I1 := Lib.hid i1
  have I2 := Lib.hid i2
  clear i1 i2
  obtain ⟨eb, heb⟩ : ∃ eb, decide (xs = ys) = eb := ⟨_, rfl⟩
  have HEB := Lib.hid heb
  clear heb
  go_enter Try.func3, Try.ntmps3
  go_wp2_with fail
  refine (sShown _).mono ?_
  rintro e w1 ⟨rfl, hb⟩
  have BB := Lib.hid hb
  have Sa := Lib.hid (Sa.out.below hb)
  have Sb := Lib.hid (Sb.out.below hb)
  clear hb
  go_wp2_with fail
  refine (sFew a b xs.length ys.length ca cb _ (by omega) (by omega)).mono ?_
  rintro e w2 ⟨rfl, rfl⟩
  rw [decide_eq_true q]
  go_wp2_with fail
  refine (sRight a _ ca xs _ rfl (by have := La.out; omega) Sa.out).mono ?_
  rintro e w3 ⟨rfl, hb⟩
  have BB := Lib.hid (BB.out.trans (hb.mono BB.out.size))
  have Sa := Lib.hid (Sa.out.below hb)
  have Sb := Lib.hid (Sb.out.below hb)
  clear hb
  rw [decide_eq_true I1.out]
  go_wp2_with fail
  refine (rRight a _ ca (xs) _ rfl (by have := La.out; omega) Sa.out).mono ?_
  rintro e w4 ⟨rfl, hb⟩
  have BB := Lib.hid (BB.out.trans (hb.mono BB.out.size))
  have Sa := Lib.hid (Sa.out.below hb)
  have Sb := Lib.hid (Sb.out.below hb)
  clear hb
  rw [decide_eq_true I1.out]
  go_wp2_with fail
  refine (sMake a _ ca (xs) _ rfl (by have := La.out; omega) Sa.out Fa.out).mono ?_
  rintro e w5 ⟨⟨am1, cm1, rfl, hA, hF⟩, hb⟩
  have BB := Lib.hid (BB.out.trans (hb.mono BB.out.size))
  have Sa := Lib.hid (Sa.out.below hb)
  have Sb := Lib.hid (Sb.out.below hb)
  have Sm1 := Lib.hid hA
  have Fm1 := Lib.hid hF
  have Lm1 := Lib.hid (Nat.le_trans (mk_len (xs)) La.out)
  clear hb hA hF
  go_wp2_with fail
  refine (rMake a _ ca xs _ rfl (by have := La.out; omega) Sa.out).mono ?_
  rintro e w6 ⟨⟨am2, cm2, rfl, hA, hF⟩, hb⟩
  have BB := Lib.hid (BB.out.trans (hb.mono BB.out.size))
  have Sa := Lib.hid (Sa.out.below hb)
  have Sb := Lib.hid (Sb.out.below hb)
  have Sm1 := Lib.hid (Sm1.out.below hb)
  have Sm2 := Lib.hid hA
  have Fm2 := Lib.hid hF
  have Lm2 := Lib.hid (Nat.le_trans (mk_len xs) La.out)
  clear hb hA hF
  go_wp2_with fail
  refine (rRows am1 am2 _ _ cm1 cm2 (mk xs) (mk xs) _ rfl rfl (by have := Lm1.out; omega) Sm1.out Sm2.out).mono ?_
  rintro e w7 ⟨rfl, hb⟩
  have BB := Lib.hid (BB.out.trans (hb.mono BB.out.size))
  have Sa := Lib.hid (Sa.out.below hb)
  have Sb := Lib.hid (Sb.out.below hb)
  have Sm1 := Lib.hid (Sm1.out.below hb)
  have Sm2 := Lib.hid (Sm2.out.below hb)
  clear hb
  rw [decide_eq_true (rfl : mk xs = mk xs)]
  clear Sm1 Fm1 Lm1
  clear Sm2 Fm2 Lm2
  go_wp2_with fail
  refine (sSame a b _ _ ca cb xs ys _ rfl rfl (by have := La.out; omega) Sa.out Sb.out).mono ?_
  rintro e w8 ⟨rfl, hb⟩
  have BB := Lib.hid (BB.out.trans (hb.mono BB.out.size))
  have Sa := Lib.hid (Sa.out.below hb)
  have Sb := Lib.hid (Sb.out.below hb)
  clear hb
  rw [HEB.out]
  go_wp2_with fail
  refine (rRows a b _ _ ca cb (xs) (ys) _ rfl rfl (by have := La.out; omega) Sa.out Sb.out).mono ?_
  rintro e w9 ⟨rfl, hb⟩
  have BB := Lib.hid (BB.out.trans (hb.mono BB.out.size))
  have Sa := Lib.hid (Sa.out.below hb)
  have Sb := Lib.hid (Sb.out.below hb)
  clear hb
  rw [HEB.out]
  go_wp2_with fail
  refine (rRight a _ ca (xs) _ rfl (by have := La.out; omega) Sa.out).mono ?_
  rintro e w10 ⟨rfl, hb⟩
  have BB := Lib.hid (BB.out.trans (hb.mono BB.out.size))
  have Sa := Lib.hid (Sa.out.below hb)
  have Sb := Lib.hid (Sb.out.below hb)
  clear hb
  rw [decide_eq_true I1.out]
  go_wp2_with fail
  refine (rRight b _ cb (ys) _ rfl (by have := Lb.out; omega) Sb.out).mono ?_
  rintro e w11 ⟨rfl, hb⟩
  have BB := Lib.hid (BB.out.trans (hb.mono BB.out.size))
  have Sa := Lib.hid (Sa.out.below hb)
  have Sb := Lib.hid (Sb.out.below hb)
  clear hb
  rw [decide_eq_false I2.out]
  go_wp2_with fail
  go_ret
  exact ⟨rfl, BB.out⟩
set_option linter.unusedSimpArgs false in
set_option maxRecDepth 100000 in
set_option maxHeartbeats 8000000 in
theorem walk3 (w : World) (a : Option Addr) (ca : Nat) (xs : List Int) (sa : As w a xs) (fa : Flat a xs.length ca) (na : xs.length ≤ 1125899906842624) (b : Option Addr) (cb : Nat) (ys : List Int) (sb : As w b ys) (fb : Flat b ys.length cb) (nb : ys.length ≤ 1125899906842624) (x : Int) (hx : 0 ≤ x ∧ x ≤ 4294967295) (q : xs.length + ys.length ≤ 200) (i1 : Inc xs) (i2 : Inc ys) :
    Calls Try.prog 3 #[.slice a xs.length ca, .slice b ys.length cb, .int .u32 x] w fun e w' => e = .returned (.bool true) ∧ Below w.heap.size w w' := by
  have Sa := Lib.hid sa
  have Fa := Lib.hid fa
  have Sb := Lib.hid sb
  have Fb := Lib.hid fb
  clear sa sb fa fb
  have La := Lib.hid (by omega : xs.length ≤ 200)
  have Lb := Lib.hid (by omega : ys.length ≤ 200)
  have EU : Hid (uni xs ys = mk (xs ++ ys)) := Lib.hid (by rw [mk_uni, mk_of i1, mk_of i2])
  have EI := Lib.hid (inter_int i1 i2).symm
  have ED := Lib.hid (minus_dif i1 i2).symm
  have I1 := Lib.hid i1
  have I2 := Lib.hid i2
  clear i1 i2
  obtain ⟨hb, hhb⟩ : ∃ hb, decide (x ∈ xs) = hb := ⟨_, rfl⟩
  have HHB := Lib.hid hhb
  clear hhb
  obtain ⟨eb, heb⟩ : ∃ eb, decide (xs = ys) = eb := ⟨_, rfl⟩
  have HEB := Lib.hid heb
  clear heb
  go_enter Try.func3, Try.ntmps3
  go_wp2_with fail
  refine (sShown _).mono ?_
  rintro e w1 ⟨rfl, hb⟩
  have BB := Lib.hid hb
  have Sa := Lib.hid (Sa.out.below hb)
  have Sb := Lib.hid (Sb.out.below hb)
  clear hb
  go_wp2_with fail
  refine (sFew a b xs.length ys.length ca cb _ (by omega) (by omega)).mono ?_
  rintro e w2 ⟨rfl, rfl⟩
  rw [decide_eq_true q]
  go_wp2_with fail
  refine (sRight a _ ca xs _ rfl (by have := La.out; omega) Sa.out).mono ?_
  rintro e w3 ⟨rfl, hb⟩
  have BB := Lib.hid (BB.out.trans (hb.mono BB.out.size))
  have Sa := Lib.hid (Sa.out.below hb)
  have Sb := Lib.hid (Sb.out.below hb)
  clear hb
  rw [decide_eq_true I1.out]
  go_wp2_with fail
  refine (rRight a _ ca (xs) _ rfl (by have := La.out; omega) Sa.out).mono ?_
  rintro e w4 ⟨rfl, hb⟩
  have BB := Lib.hid (BB.out.trans (hb.mono BB.out.size))
  have Sa := Lib.hid (Sa.out.below hb)
  have Sb := Lib.hid (Sb.out.below hb)
  clear hb
  rw [decide_eq_true I1.out]
  go_wp2_with fail
  refine (sMake a _ ca (xs) _ rfl (by have := La.out; omega) Sa.out Fa.out).mono ?_
  rintro e w5 ⟨⟨am1, cm1, rfl, hA, hF⟩, hb⟩
  have BB := Lib.hid (BB.out.trans (hb.mono BB.out.size))
  have Sa := Lib.hid (Sa.out.below hb)
  have Sb := Lib.hid (Sb.out.below hb)
  have Sm1 := Lib.hid hA
  have Fm1 := Lib.hid hF
  have Lm1 := Lib.hid (Nat.le_trans (mk_len (xs)) La.out)
  clear hb hA hF
  go_wp2_with fail
  refine (rMake a _ ca xs _ rfl (by have := La.out; omega) Sa.out).mono ?_
  rintro e w6 ⟨⟨am2, cm2, rfl, hA, hF⟩, hb⟩
  have BB := Lib.hid (BB.out.trans (hb.mono BB.out.size))
  have Sa := Lib.hid (Sa.out.below hb)
  have Sb := Lib.hid (Sb.out.below hb)
  have Sm1 := Lib.hid (Sm1.out.below hb)
  have Sm2 := Lib.hid hA
  have Fm2 := Lib.hid hF
  have Lm2 := Lib.hid (Nat.le_trans (mk_len xs) La.out)
  clear hb hA hF
  go_wp2_with fail
  refine (rRows am1 am2 _ _ cm1 cm2 (mk xs) (mk xs) _ rfl rfl (by have := Lm1.out; omega) Sm1.out Sm2.out).mono ?_
  rintro e w7 ⟨rfl, hb⟩
  have BB := Lib.hid (BB.out.trans (hb.mono BB.out.size))
  have Sa := Lib.hid (Sa.out.below hb)
  have Sb := Lib.hid (Sb.out.below hb)
  have Sm1 := Lib.hid (Sm1.out.below hb)
  have Sm2 := Lib.hid (Sm2.out.below hb)
  clear hb
  rw [decide_eq_true (rfl : mk xs = mk xs)]
  clear Sm1 Fm1 Lm1
  clear Sm2 Fm2 Lm2
  go_wp2_with fail
  refine (sSame a b _ _ ca cb xs ys _ rfl rfl (by have := La.out; omega) Sa.out Sb.out).mono ?_
  rintro e w8 ⟨rfl, hb⟩
  have BB := Lib.hid (BB.out.trans (hb.mono BB.out.size))
  have Sa := Lib.hid (Sa.out.below hb)
  have Sb := Lib.hid (Sb.out.below hb)
  clear hb
  rw [HEB.out]
  go_wp2_with fail
  refine (rRows a b _ _ ca cb (xs) (ys) _ rfl rfl (by have := La.out; omega) Sa.out Sb.out).mono ?_
  rintro e w9 ⟨rfl, hb⟩
  have BB := Lib.hid (BB.out.trans (hb.mono BB.out.size))
  have Sa := Lib.hid (Sa.out.below hb)
  have Sb := Lib.hid (Sb.out.below hb)
  clear hb
  rw [HEB.out]
  go_wp2_with fail
  refine (rRight a _ ca (xs) _ rfl (by have := La.out; omega) Sa.out).mono ?_
  rintro e w10 ⟨rfl, hb⟩
  have BB := Lib.hid (BB.out.trans (hb.mono BB.out.size))
  have Sa := Lib.hid (Sa.out.below hb)
  have Sb := Lib.hid (Sb.out.below hb)
  clear hb
  rw [decide_eq_true I1.out]
  go_wp2_with fail
  refine (rRight b _ cb (ys) _ rfl (by have := Lb.out; omega) Sb.out).mono ?_
  rintro e w11 ⟨rfl, hb⟩
  have BB := Lib.hid (BB.out.trans (hb.mono BB.out.size))
  have Sa := Lib.hid (Sa.out.below hb)
  have Sb := Lib.hid (Sb.out.below hb)
  clear hb
  rw [decide_eq_true I2.out]
  go_wp2_with fail
  refine (sHas a _ ca (xs) x _ rfl (by have := La.out; omega) Sa.out).mono ?_
  rintro e w12 ⟨rfl, rfl⟩
  rw [HHB.out]
  go_wp2_with fail
  refine (rHas a _ ca xs x _ rfl (by have := La.out; omega) Sa.out).mono ?_
  rintro e w13 ⟨rfl, rfl⟩
  rw [HHB.out]
  go_wp2_with fail
  refine (sUnion a b _ _ ca cb (xs) (ys) _ rfl rfl (by have := La.out; omega) (by have := Lb.out; omega) Sa.out Sb.out).mono ?_
  rintro e w14 ⟨⟨au1, cu1, rfl, hA, hF⟩, hb⟩
  have BB := Lib.hid (BB.out.trans (hb.mono BB.out.size))
  have Sa := Lib.hid (Sa.out.below hb)
  have Sb := Lib.hid (Sb.out.below hb)
  have Su1 := Lib.hid hA
  have Fu1 := Lib.hid hF
  have Lu1 := Lib.hid ((by have h1 := La.out; have h2 := Lb.out; have h3 := those_len (fun p q => p || q) (xs) (ys); change (uni (xs) (ys)).length ≤ _ at h3; omega : (uni xs ys).length ≤ 400))
  clear hb hA hF
  go_wp2_with fail
  refine (rUnion a b _ _ ca cb xs ys _ rfl rfl (by have := La.out; omega) (by have := Lb.out; omega) Sa.out Sb.out (flat_nil' Fa.out) (flat_nil' Fb.out)).mono ?_
  rintro e w15 ⟨⟨au2, cu2, rfl, hA, hF⟩, hb⟩
  have BB := Lib.hid (BB.out.trans (hb.mono BB.out.size))
  have Sa := Lib.hid (Sa.out.below hb)
  have Sb := Lib.hid (Sb.out.below hb)
  have Su1 := Lib.hid (Su1.out.below hb)
  have Su2 := Lib.hid hA
  have Fu2 := Lib.hid hF
  have Lu2 := Lib.hid ((by have h1 := mk_len (xs ++ ys); have h2 := La.out; have h3 := Lb.out; rw [List.length_append] at h1; omega : (mk (xs ++ ys)).length ≤ 400))
  clear hb hA hF
  go_wp2_with fail
  refine (rRows au1 au2 _ _ cu1 cu2 (uni xs ys) (mk (xs ++ ys)) _ rfl rfl (by have := Lu1.out; omega) Su1.out Su2.out).mono ?_
  rintro e w16 ⟨rfl, hb⟩
  have BB := Lib.hid (BB.out.trans (hb.mono BB.out.size))
  have Sa := Lib.hid (Sa.out.below hb)
  have Sb := Lib.hid (Sb.out.below hb)
  have Su1 := Lib.hid (Su1.out.below hb)
  have Su2 := Lib.hid (Su2.out.below hb)
  clear hb
  rw [decide_eq_true EU.out]
  clear Su1 Fu1 Lu1
  clear Su2 Fu2 Lu2
  go_wp2_with fail
  refine (sInter a b _ _ ca cb (xs) (ys) _ rfl rfl (by have := La.out; omega) (by have := Lb.out; omega) Sa.out Sb.out).mono ?_
  rintro e w17 ⟨⟨au3, cu3, rfl, hA, hF⟩, hb⟩
  have BB := Lib.hid (BB.out.trans (hb.mono BB.out.size))
  have Sa := Lib.hid (Sa.out.below hb)
  have Sb := Lib.hid (Sb.out.below hb)
  have Su3 := Lib.hid hA
  have Fu3 := Lib.hid hF
  have Lu3 := Lib.hid (Nat.le_trans (int_len (xs) (ys)) La.out)
  clear hb hA hF
  go_wp2_with fail
  refine (rInter a b _ _ ca cb xs ys _ rfl rfl (by have := La.out; omega) (by have := Lb.out; omega) Sa.out Sb.out).mono ?_
  rintro e w18 ⟨⟨au4, cu4, rfl, hA, hF⟩, hb⟩
  have BB := Lib.hid (BB.out.trans (hb.mono BB.out.size))
  have Sa := Lib.hid (Sa.out.below hb)
  have Sb := Lib.hid (Sb.out.below hb)
  have Su3 := Lib.hid (Su3.out.below hb)
  have Su4 := Lib.hid hA
  have Fu4 := Lib.hid hF
  have Lu4 := Lib.hid ((Nat.le_trans (List.length_filter_le _ _) La.out : (xs.filter (fun z => decide (z ∈ ys))).length ≤ 200))
  clear hb hA hF
  go_wp2_with fail
  refine (rRows au3 au4 _ _ cu3 cu4 (int xs ys) (xs.filter (fun z => decide (z ∈ ys))) _ rfl rfl (by have := Lu3.out; omega) Su3.out Su4.out).mono ?_
  rintro e w19 ⟨rfl, hb⟩
  have BB := Lib.hid (BB.out.trans (hb.mono BB.out.size))
  have Sa := Lib.hid (Sa.out.below hb)
  have Sb := Lib.hid (Sb.out.below hb)
  have Su3 := Lib.hid (Su3.out.below hb)
  have Su4 := Lib.hid (Su4.out.below hb)
  clear hb
  rw [decide_eq_true EI.out]
  clear Su3 Fu3 Lu3
  clear Su4 Fu4 Lu4
  go_wp2_with fail
  refine (sMinus a b _ _ ca cb (xs) (ys) _ rfl rfl (by have := La.out; omega) (by have := Lb.out; omega) Sa.out Sb.out).mono ?_
  rintro e w20 ⟨⟨au5, cu5, rfl, hA, hF⟩, hb⟩
  have BB := Lib.hid (BB.out.trans (hb.mono BB.out.size))
  have Sa := Lib.hid (Sa.out.below hb)
  have Sb := Lib.hid (Sb.out.below hb)
  have Su5 := Lib.hid hA
  have Fu5 := Lib.hid hF
  have Lu5 := Lib.hid (Nat.le_trans (dif_len (xs) (ys)) La.out)
  clear hb hA hF
  go_wp2_with fail
  refine (rMinus a b _ _ ca cb xs ys _ rfl rfl (by have := La.out; omega) (by have := Lb.out; omega) Sa.out Sb.out).mono ?_
  rintro e w21 ⟨⟨au6, cu6, rfl, hA, hF⟩, hb⟩
  have BB := Lib.hid (BB.out.trans (hb.mono BB.out.size))
  have Sa := Lib.hid (Sa.out.below hb)
  have Sb := Lib.hid (Sb.out.below hb)
  have Su5 := Lib.hid (Su5.out.below hb)
  have Su6 := Lib.hid hA
  have Fu6 := Lib.hid hF
  have Lu6 := Lib.hid ((Nat.le_trans (List.length_filter_le _ _) La.out : (xs.filter (fun z => !decide (z ∈ ys))).length ≤ 200))
  clear hb hA hF
  go_wp2_with fail
  refine (rRows au5 au6 _ _ cu5 cu6 (dif xs ys) (xs.filter (fun z => !decide (z ∈ ys))) _ rfl rfl (by have := Lu5.out; omega) Su5.out Su6.out).mono ?_
  rintro e w22 ⟨rfl, hb⟩
  have BB := Lib.hid (BB.out.trans (hb.mono BB.out.size))
  have Sa := Lib.hid (Sa.out.below hb)
  have Sb := Lib.hid (Sb.out.below hb)
  have Su5 := Lib.hid (Su5.out.below hb)
  have Su6 := Lib.hid (Su6.out.below hb)
  clear hb
  rw [decide_eq_true ED.out]
  clear Su5 Fu5 Lu5
  clear Su6 Fu6 Lu6
  go_wp2_with fail
  go_ret
  exact ⟨rfl, BB.out⟩
theorem walk (w : World) (a : Option Addr) (ca : Nat) (xs : List Int) (sa : As w a xs) (fa : Flat a xs.length ca) (na : xs.length ≤ 1125899906842624) (b : Option Addr) (cb : Nat) (ys : List Int) (sb : As w b ys) (fb : Flat b ys.length cb) (nb : ys.length ≤ 1125899906842624) (x : Int) (hx : 0 ≤ x ∧ x ≤ 4294967295) :
    Calls Try.prog 3 #[.slice a xs.length ca, .slice b ys.length cb, .int .u32 x] w fun e w' => e = .returned (.bool true) ∧ Below w.heap.size w w' := by
  by_cases q : xs.length + ys.length ≤ 200
  · by_cases i1 : Inc xs
    · by_cases i2 : Inc ys
      · exact walk3 w a ca xs sa fa na b cb ys sb fb nb x hx q i1 i2
      · exact walk2 w a ca xs sa fa na b cb ys sb fb nb x hx q i1 i2
    · exact walk1 w a ca xs sa fa na b cb ys sb fb nb x hx q i1
  · exact walk0 w a ca xs sa fa na b cb ys sb fb nb x hx q

theorem contract (H : Type) (enc : TypeId × Value → H) (W : World) (base : Nat) (args : Array Value) (ds gs : List (DataW H)) (before : List MemPlace)
    (hval : ∀ (j : Nat) t v, Try.f3.params[j]? = some t → args[j]? = some v → Value.okWide Try.prog W .any base t v)
    (hW : DataW.Whole enc Try.prog Try.f3.params.toList Rows.setTellsSpec.vars false W args.toList ds gs before) (hsz : (DataW.weightsEach Try.prog (Try.f3.params.toList ++ Rows.setTellsSpec.plain.varTypes Try.prog) (ds ++ gs)).all (· ≤ reachBytes) = true) :
    Calls Try.prog 3 args W fun e W' => ∃ v, e = .returned v ∧ Rows.setTellsSpec.post enc Try.prog Try.f3 false true false false W args v W' := by
  have hW' := hW
  obtain ⟨p, q, hA0, hV, rfl, hfz, hnd⟩ := hW
  have hA : DataW.TrodAll enc Try.prog W 0 (fun _ => true) true Try.f3.params.toList args.toList ds p := hA0
  rw [Try.params3] at hA hval
  obtain ⟨v0, vs0, d0, ds0, p0, q0, hargs, rfl, rfl, h0, r0⟩ := trodAll_cons hA
  obtain ⟨v1, vs1, d1, ds1, p1, q1, rfl, rfl, rfl, h1, r1⟩ := trodAll_cons r0
  obtain ⟨v2, vs2, d2, ds2, p2, q2, rfl, rfl, rfl, h2, r2⟩ := trodAll_cons r1
  obtain ⟨rfl, rfl, rfl⟩ := trodAll_nil r2
  obtain rfl : args = #[v0, v1, v2] := by cases args; simp_all
  obtain ⟨rfl, rfl⟩ := trodVars_none hV
  have k0 := h0
  have lt0 : ∀ x ∈ p0, x.block < W.heap.size := by obtain ⟨m, hm⟩ := k0; exact DataW.trod_lt m _ _ _ hm
  have k1 := h1
  have lt1 : ∀ x ∈ p1, x.block < W.heap.size := by obtain ⟨m, hm⟩ := k1; exact DataW.trod_lt m _ _ _ hm
  have k2 := h2
  have lt2 : ∀ x ∈ p2, x.block < W.heap.size := by obtain ⟨m, hm⟩ := k2; exact DataW.trod_lt m _ _ _ hm
  obtain ⟨a0, c0, x0, rfl, s0, f0, n0⟩ := open_top (hval 0 22 v0 rfl rfl) h0 (fun x hx => by simpa using List.all_eq_true.1 hsz _ (DataW.weights_mem_each (j := 0) rfl rfl x hx))
  obtain ⟨a1, c1, x1, rfl, s1, f1, n1⟩ := open_top (hval 1 22 v1 rfl rfl) h1 (fun x hx => by simpa using List.all_eq_true.1 hsz _ (DataW.weights_mem_each (j := 1) rfl rfl x hx))
  obtain ⟨a2, rfl, rfl, rfl, w2⟩ := open_int Try.underlying24 (hval 2 24 v2 rfl rfl) h2
  clear hA0
  refine (walk W a0 c0 x0 s0 f0 n0 a1 c1 x1 s1 f1 n1 a2 (bounds_u32 w2)).mono fun e W' ⟨he, bel⟩ => ?_
  subst he
  exact ⟨_, rfl, _, _, _, [], _, [], hW', trodAll_mk1 (shut_bool Try.underlying4 _), (trodAll_cons_mk (Below.trod laidOut (by kernel_rfl) (of_decide_eq_true (by kernel_rfl)) k0 bel lt0) (trodAll_cons_mk (Below.trod laidOut (by kernel_rfl) (of_decide_eq_true (by kernel_rfl)) k1 bel lt1) (trodAll_cons_mk (Below.trod laidOut (by kernel_rfl) (of_decide_eq_true (by kernel_rfl)) k2 bel lt2) trodAll_mk0))), rfl, bel.frame _, fun h => by cases h⟩

set_option maxRecDepth 100000 in
theorem lifted (os : Os) (started : os.Started) (H : Type) (enc : TypeId × Value → H) :
    ReturnsInHanded {} Try.checked os 3 .any (Rows.setTellsSpec.pre6 enc Try.prog Try.f3 Rows.setTellsRow.domain false) (Rows.setTellsSpec.post enc Try.prog Try.f3 false true false false) := by
  refine returnsInHanded_of_change_sized (C := Try.checked) own started (by kernel_rfl) Try.func3
    (ChangeSpec.witness6 (enc := enc) (C := Try.checked) false ⟨#[], #[(.slice none 0 0), (.slice none 0 0), (.int .u32 0)], []⟩ 8 (by kernel_rfl) (by kernel_rfl) (by kernel_rfl) (by kernel_rfl)) ?_
  intro W base args ds gs before hval hW hcnd hsz _
  exact contract H enc W base args ds gs before hval hW hsz
theorem said : Rows.SetTellsSaid :=
  OpenClaim.holds_of_wide 3 Try.f3 rfl rfl rfl rfl rfl rfl rfl ⟨rfl, rfl, rfl, rfl, rfl⟩ rfl rfl rfl rfl rfl (by kernel_rfl) Try.func3 (by kernel_rfl)
    (of_decide_eq_true (by kernel_rfl)) (by unfold Func.isWrapper; first | (rw [if_pos (by decide +kernel)]; kernel_rfl) | (rw [if_neg (by decide +kernel)]; exact ⟨rfl, rfl⟩))
    (fun os started H enc _ => lifted os started H enc)
#print axioms said
end Go.Proofs.Ytikanaabecmkcaa.setTells
