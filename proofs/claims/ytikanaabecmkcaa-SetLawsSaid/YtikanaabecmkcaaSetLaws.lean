/- The law SetLaws: every call returns true, and its arguments read behind the call as before it. Condition: none but the row's own. -/
import Derived.Test.YtikanaabecmkcaaPl
namespace Go.Proofs.Ytikanaabecmkcaa.setLaws
set_option linter.unusedVariables false
open Go.ChangeShapes Go.WideShapes Go.ChangeAt Go.RowKit
open Go.ChangeMaps (open_string shut_string)

theorem L1 {a b : List Int} (ha : Inc a) (hb : Inc b) : uni a b = uni b a := inc_ext (uni_inc ha hb) (uni_inc hb ha) fun x => by rw [uni_mem ha hb, uni_mem hb ha, or_comm]
theorem L2 {a b c : List Int} (ha : Inc a) (hb : Inc b) (hc : Inc c) : uni (uni a b) c = uni a (uni b c) := inc_ext (uni_inc (uni_inc ha hb) hc) (uni_inc ha (uni_inc hb hc)) fun x => by rw [uni_mem (uni_inc ha hb) hc, uni_mem ha hb, uni_mem ha (uni_inc hb hc), uni_mem hb hc, or_assoc]
theorem L3 {a b : List Int} (ha : Inc a) (hb : Inc b) : int a b = int b a := inc_ext (int_inc ha hb) (int_inc hb ha) fun x => by rw [int_mem ha hb, int_mem hb ha, and_comm]
theorem L4 {a b : List Int} (ha : Inc a) (hb : Inc b) : int a b = dif a (dif a b) := inc_ext (int_inc ha hb) (dif_inc ha (dif_inc ha hb)) fun x => by
  rw [int_mem ha hb, dif_mem ha (dif_inc ha hb), dif_mem ha hb]
  by_cases h1 : x ∈ a <;> by_cases h2 : x ∈ b <;> simp [h1, h2]
theorem L5 {a : List Int} (ha : Inc a) : uni a a = a := inc_ext (uni_inc ha ha) ha fun x => by rw [uni_mem ha ha, or_self]
theorem L6 {a : List Int} (ha : Inc a) : int a a = a := inc_ext (int_inc ha ha) ha fun x => by rw [int_mem ha ha, and_self]
theorem L7 {a : List Int} (ha : Inc a) : dif a a = [] := inc_ext (dif_inc ha ha) inc_nil fun x => by
  rw [dif_mem ha ha]
  by_cases h1 : x ∈ a <;> simp [h1]
theorem L8 {a b c : List Int} (ha : Inc a) (hb : Inc b) (hc : Inc c) : int a (uni b c) = uni (int a b) (int a c) := inc_ext (int_inc ha (uni_inc hb hc)) (uni_inc (int_inc ha hb) (int_inc ha hc)) fun x => by rw [int_mem ha (uni_inc hb hc), uni_mem hb hc, uni_mem (int_inc ha hb) (int_inc ha hc), int_mem ha hb, int_mem ha hc, and_or_left]
set_option linter.unusedSimpArgs false in
set_option maxRecDepth 100000 in
set_option maxHeartbeats 8000000 in
theorem walk0 (w : World) (a : Option Addr) (ca : Nat) (xs : List Int) (sa : As w a xs) (fa : Flat a xs.length ca) (na : xs.length ≤ 1125899906842624) (b : Option Addr) (cb : Nat) (ys : List Int) (sb : As w b ys) (fb : Flat b ys.length cb) (nb : ys.length ≤ 1125899906842624) (c : Option Addr) (cc : Nat) (zs : List Int) (sc : As w c zs) (fc : Flat c zs.length cc) (nc : zs.length ≤ 1125899906842624) (q : ¬ xs.length + ys.length + zs.length ≤ 200) :
    Calls Try.prog 7 #[.slice a xs.length ca, .slice b ys.length cb, .slice c zs.length cc] w fun e w' => e = .returned (.bool true) ∧ Below w.heap.size w w' := by
  have Sa := Lib.hid sa
  have Fa := Lib.hid fa
  have Sb := Lib.hid sb
  have Fb := Lib.hid fb
  have Sc := Lib.hid sc
  have Fc := Lib.hid fc
  clear sa sb sc fa fb fc
  have hq : (200 : Int) < (xs.length : Int) + (ys.length : Int) + (zs.length : Int) := by omega
  go_enter Try.func7, Try.ntmps7
  go_wp2_with fail
  refine (sShown _).mono ?_
  rintro e w1 ⟨rfl, hb⟩
  have BB := Lib.hid hb
  have Sa := Lib.hid (Sa.out.below hb)
  have Sb := Lib.hid (Sb.out.below hb)
  have Sc := Lib.hid (Sc.out.below hb)
  clear hb
  go_wp2_with fail
  go_ret
  exact ⟨rfl, BB.out⟩
set_option linter.unusedSimpArgs false in
set_option maxRecDepth 100000 in
set_option maxHeartbeats 8000000 in
theorem walk1 (w : World) (a : Option Addr) (ca : Nat) (xs : List Int) (sa : As w a xs) (fa : Flat a xs.length ca) (na : xs.length ≤ 1125899906842624) (b : Option Addr) (cb : Nat) (ys : List Int) (sb : As w b ys) (fb : Flat b ys.length cb) (nb : ys.length ≤ 1125899906842624) (c : Option Addr) (cc : Nat) (zs : List Int) (sc : As w c zs) (fc : Flat c zs.length cc) (nc : zs.length ≤ 1125899906842624) (q : xs.length + ys.length + zs.length ≤ 200) (i1 : ¬ Inc xs) :
    Calls Try.prog 7 #[.slice a xs.length ca, .slice b ys.length cb, .slice c zs.length cc] w fun e w' => e = .returned (.bool true) ∧ Below w.heap.size w w' := by
  have Sa := Lib.hid sa
  have Fa := Lib.hid fa
  have Sb := Lib.hid sb
  have Fb := Lib.hid fb
  have Sc := Lib.hid sc
  have Fc := Lib.hid fc
  clear sa sb sc fa fb fc
  have La := Lib.hid (by omega : xs.length ≤ 200)
  have Lb := Lib.hid (by omega : ys.length ≤ 200)
  have Lc := Lib.hid (by omega : zs.length ≤ 200)
  have hq : decide ((200 : Int) < (xs.length : Int) + (ys.length : Int) + (zs.length : Int)) = false := decide_eq_false (by omega)
  go_enter Try.func7, Try.ntmps7
  go_wp2_with fail
  refine (sShown _).mono ?_
  rintro e w1 ⟨rfl, hb⟩
  have BB := Lib.hid hb
  have Sa := Lib.hid (Sa.out.below hb)
  have Sb := Lib.hid (Sb.out.below hb)
  have Sc := Lib.hid (Sc.out.below hb)
  clear hb
  go_wp2_with fail
  refine (rRight a _ ca (xs) _ rfl (by have := La.out; omega) Sa.out).mono ?_
  rintro e w2 ⟨rfl, hb⟩
  have BB := Lib.hid (BB.out.trans (hb.mono BB.out.size))
  have Sa := Lib.hid (Sa.out.below hb)
  have Sb := Lib.hid (Sb.out.below hb)
  have Sc := Lib.hid (Sc.out.below hb)
  clear hb
  rw [decide_eq_false i1]
  go_wp2_with fail
  go_ret
  exact ⟨rfl, BB.out⟩
set_option linter.unusedSimpArgs false in
set_option maxRecDepth 100000 in
set_option maxHeartbeats 8000000 in
theorem walk2 (w : World) (a : Option Addr) (ca : Nat) (xs : List Int) (sa : As w a xs) (fa : Flat a xs.length ca) (na : xs.length ≤ 1125899906842624) (b : Option Addr) (cb : Nat) (ys : List Int) (sb : As w b ys) (fb : Flat b ys.length cb) (nb : ys.length ≤ 1125899906842624) (c : Option Addr) (cc : Nat) (zs : List Int) (sc : As w c zs) (fc : Flat c zs.length cc) (nc : zs.length ≤ 1125899906842624) (q : xs.length + ys.length + zs.length ≤ 200) (i1 : Inc xs) (i2 : ¬ Inc ys) :
    Calls Try.prog 7 #[.slice a xs.length ca, .slice b ys.length cb, .slice c zs.length cc] w fun e w' => e = .returned (.bool true) ∧ Below w.heap.size w w' := by
  have Sa := Lib.hid sa
  have Fa := Lib.hid fa
  have Sb := Lib.hid sb
  have Fb := Lib.hid fb
  have Sc := Lib.hid sc
  have Fc := Lib.hid fc
  clear sa sb sc fa fb fc
  have La := Lib.hid (by omega : xs.length ≤ 200)
  have Lb := Lib.hid (by omega : ys.length ≤ 200)
  have Lc := Lib.hid (by omega : zs.length ≤ 200)
  have hq : decide ((200 : Int) < (xs.length : Int) + (ys.length : Int) + (zs.length : Int)) = false := decide_eq_false (by omega)
  go_enter Try.func7, Try.ntmps7
  go_wp2_with fail
  refine (sShown _).mono ?_
  rintro e w1 ⟨rfl, hb⟩
  have BB := Lib.hid hb
  have Sa := Lib.hid (Sa.out.below hb)
  have Sb := Lib.hid (Sb.out.below hb)
  have Sc := Lib.hid (Sc.out.below hb)
  clear hb
  go_wp2_with fail
  refine (rRight a _ ca (xs) _ rfl (by have := La.out; omega) Sa.out).mono ?_
  rintro e w2 ⟨rfl, hb⟩
  have BB := Lib.hid (BB.out.trans (hb.mono BB.out.size))
  have Sa := Lib.hid (Sa.out.below hb)
  have Sb := Lib.hid (Sb.out.below hb)
  have Sc := Lib.hid (Sc.out.below hb)
  clear hb
  rw [decide_eq_true i1]
  go_wp2_with fail
  refine (rRight b _ cb (ys) _ rfl (by have := Lb.out; omega) Sb.out).mono ?_
  rintro e w3 ⟨rfl, hb⟩
  have BB := Lib.hid (BB.out.trans (hb.mono BB.out.size))
  have Sa := Lib.hid (Sa.out.below hb)
  have Sb := Lib.hid (Sb.out.below hb)
  have Sc := Lib.hid (Sc.out.below hb)
  clear hb
  rw [decide_eq_false i2]
  go_wp2_with fail
  go_ret
  exact ⟨rfl, BB.out⟩
set_option linter.unusedSimpArgs false in
set_option maxRecDepth 100000 in
set_option maxHeartbeats 8000000 in
theorem walk3 (w : World) (a : Option Addr) (ca : Nat) (xs : List Int) (sa : As w a xs) (fa : Flat a xs.length ca) (na : xs.length ≤ 1125899906842624) (b : Option Addr) (cb : Nat) (ys : List Int) (sb : As w b ys) (fb : Flat b ys.length cb) (nb : ys.length ≤ 1125899906842624) (c : Option Addr) (cc : Nat) (zs : List Int) (sc : As w c zs) (fc : Flat c zs.length cc) (nc : zs.length ≤ 1125899906842624) (q : xs.length + ys.length + zs.length ≤ 200) (i1 : Inc xs) (i2 : Inc ys) (i3 : ¬ Inc zs) :
    Calls Try.prog 7 #[.slice a xs.length ca, .slice b ys.length cb, .slice c zs.length cc] w fun e w' => e = .returned (.bool true) ∧ Below w.heap.size w w' := by
  have Sa := Lib.hid sa
  have Fa := Lib.hid fa
  have Sb := Lib.hid sb
  have Fb := Lib.hid fb
  have Sc := Lib.hid sc
  have Fc := Lib.hid fc
  clear sa sb sc fa fb fc
  have La := Lib.hid (by omega : xs.length ≤ 200)
  have Lb := Lib.hid (by omega : ys.length ≤ 200)
  have Lc := Lib.hid (by omega : zs.length ≤ 200)
  have hq : decide ((200 : Int) < (xs.length : Int) + (ys.length : Int) + (zs.length : Int)) = false := decide_eq_false (by omega)
  go_enter Try.func7, Try.ntmps7
  go_wp2_with fail
  refine (sShown _).mono ?_
  rintro e w1 ⟨rfl, hb⟩
  have BB := Lib.hid hb
  have Sa := Lib.hid (Sa.out.below hb)
  have Sb := Lib.hid (Sb.out.below hb)
  have Sc := Lib.hid (Sc.out.below hb)
  clear hb
  go_wp2_with fail
  refine (rRight a _ ca (xs) _ rfl (by have := La.out; omega) Sa.out).mono ?_
  rintro e w2 ⟨rfl, hb⟩
  have BB := Lib.hid (BB.out.trans (hb.mono BB.out.size))
  have Sa := Lib.hid (Sa.out.below hb)
  have Sb := Lib.hid (Sb.out.below hb)
  have Sc := Lib.hid (Sc.out.below hb)
  clear hb
  rw [decide_eq_true i1]
  go_wp2_with fail
  refine (rRight b _ cb (ys) _ rfl (by have := Lb.out; omega) Sb.out).mono ?_
  rintro e w3 ⟨rfl, hb⟩
  have BB := Lib.hid (BB.out.trans (hb.mono BB.out.size))
  have Sa := Lib.hid (Sa.out.below hb)
  have Sb := Lib.hid (Sb.out.below hb)
  have Sc := Lib.hid (Sc.out.below hb)
  clear hb
  rw [decide_eq_true i2]
  go_wp2_with fail
  refine (rRight c _ cc (zs) _ rfl (by have := Lc.out; omega) Sc.out).mono ?_
  rintro e w4 ⟨rfl, hb⟩
  have BB := Lib.hid (BB.out.trans (hb.mono BB.out.size))
  have Sa := Lib.hid (Sa.out.below hb)
  have Sb := Lib.hid (Sb.out.below hb)
  have Sc := Lib.hid (Sc.out.below hb)
  clear hb
  rw [decide_eq_false i3]
  go_wp2_with fail
  go_ret
  exact ⟨rfl, BB.out⟩
set_option linter.unusedSimpArgs false in
set_option maxRecDepth 100000 in
set_option maxHeartbeats 8000000 in
theorem walk4 (w : World) (a : Option Addr) (ca : Nat) (xs : List Int) (sa : As w a xs) (fa : Flat a xs.length ca) (na : xs.length ≤ 1125899906842624) (b : Option Addr) (cb : Nat) (ys : List Int) (sb : As w b ys) (fb : Flat b ys.length cb) (nb : ys.length ≤ 1125899906842624) (c : Option Addr) (cc : Nat) (zs : List Int) (sc : As w c zs) (fc : Flat c zs.length cc) (nc : zs.length ≤ 1125899906842624) (q : xs.length + ys.length + zs.length ≤ 200) (i1 : Inc xs) (i2 : Inc ys) (i3 : Inc zs) :
    Calls Try.prog 7 #[.slice a xs.length ca, .slice b ys.length cb, .slice c zs.length cc] w fun e w' => e = .returned (.bool true) ∧ Below w.heap.size w w' := by
  have Sa := Lib.hid sa
  have Fa := Lib.hid fa
  have Sb := Lib.hid sb
  have Fb := Lib.hid fb
  have Sc := Lib.hid sc
  have Fc := Lib.hid fc
  clear sa sb sc fa fb fc
  have La := Lib.hid (by omega : xs.length ≤ 200)
  have Lb := Lib.hid (by omega : ys.length ≤ 200)
  have Lc := Lib.hid (by omega : zs.length ≤ 200)
  have hq : decide ((200 : Int) < (xs.length : Int) + (ys.length : Int) + (zs.length : Int)) = false := decide_eq_false (by omega)
  have E1 := Lib.hid (L1 i1 i2)
  have E2 := Lib.hid (L2 i1 i2 i3)
  have E3 := Lib.hid (L3 i1 i2)
  have E4 := Lib.hid (L4 i1 i2)
  have E5 := Lib.hid (L5 i1)
  have E6 := Lib.hid (L6 i1)
  have E7 := Lib.hid (L7 i1)
  have E8 := Lib.hid (L8 i1 i2 i3)
  have I1 := Lib.hid i1
  have I2 := Lib.hid i2
  have I3 := Lib.hid i3
  clear i1 i2 i3
  go_enter Try.func7, Try.ntmps7
  go_wp2_with fail
  refine (sShown _).mono ?_
  rintro e w1 ⟨rfl, hb⟩
  have BB := Lib.hid hb
  have Sa := Lib.hid (Sa.out.below hb)
  have Sb := Lib.hid (Sb.out.below hb)
  have Sc := Lib.hid (Sc.out.below hb)
  clear hb
  go_wp2_with fail
  refine (rRight a _ ca (xs) _ rfl (by have := La.out; omega) Sa.out).mono ?_
  rintro e w2 ⟨rfl, hb⟩
  have BB := Lib.hid (BB.out.trans (hb.mono BB.out.size))
  have Sa := Lib.hid (Sa.out.below hb)
  have Sb := Lib.hid (Sb.out.below hb)
  have Sc := Lib.hid (Sc.out.below hb)
  clear hb
  rw [decide_eq_true I1.out]
  go_wp2_with fail
  refine (rRight b _ cb (ys) _ rfl (by have := Lb.out; omega) Sb.out).mono ?_
  rintro e w3 ⟨rfl, hb⟩
  have BB := Lib.hid (BB.out.trans (hb.mono BB.out.size))
  have Sa := Lib.hid (Sa.out.below hb)
  have Sb := Lib.hid (Sb.out.below hb)
  have Sc := Lib.hid (Sc.out.below hb)
  clear hb
  rw [decide_eq_true I2.out]
  go_wp2_with fail
  refine (rRight c _ cc (zs) _ rfl (by have := Lc.out; omega) Sc.out).mono ?_
  rintro e w4 ⟨rfl, hb⟩
  have BB := Lib.hid (BB.out.trans (hb.mono BB.out.size))
  have Sa := Lib.hid (Sa.out.below hb)
  have Sb := Lib.hid (Sb.out.below hb)
  have Sc := Lib.hid (Sc.out.below hb)
  clear hb
  rw [decide_eq_true I3.out]
  clear I1 I2 I3 hq
  go_wp2_with fail
  refine (sUnion a b _ _ ca cb (xs) (ys) _ rfl rfl (by have := La.out; omega) (by have := Lb.out; omega) Sa.out Sb.out).mono ?_
  rintro e w5 ⟨⟨au1, cu1, rfl, hA, hF⟩, hb⟩
  have BB := Lib.hid (BB.out.trans (hb.mono BB.out.size))
  have Sa := Lib.hid (Sa.out.below hb)
  have Sb := Lib.hid (Sb.out.below hb)
  have Sc := Lib.hid (Sc.out.below hb)
  have Su1 := Lib.hid hA
  have Fu1 := Lib.hid hF
  have Lu1 := Lib.hid ((by have h1 := La.out; have h2 := Lb.out; have h3 := those_len (fun p q => p || q) (xs) (ys); change (uni (xs) (ys)).length ≤ _ at h3; omega : (uni xs ys).length ≤ 400))
  clear hb hA hF
  go_wp2_with fail
  refine (sUnion b a _ _ cb ca (ys) (xs) _ rfl rfl (by have := Lb.out; omega) (by have := La.out; omega) Sb.out Sa.out).mono ?_
  rintro e w6 ⟨⟨au2, cu2, rfl, hA, hF⟩, hb⟩
  have BB := Lib.hid (BB.out.trans (hb.mono BB.out.size))
  have Sa := Lib.hid (Sa.out.below hb)
  have Sb := Lib.hid (Sb.out.below hb)
  have Sc := Lib.hid (Sc.out.below hb)
  have Su1 := Lib.hid (Su1.out.below hb)
  have Su2 := Lib.hid hA
  have Fu2 := Lib.hid hF
  have Lu2 := Lib.hid ((by have h1 := Lb.out; have h2 := La.out; have h3 := those_len (fun p q => p || q) (ys) (xs); change (uni (ys) (xs)).length ≤ _ at h3; omega : (uni ys xs).length ≤ 400))
  clear hb hA hF
  go_wp2_with fail
  refine (sSame au1 au2 _ _ cu1 cu2 (uni xs ys) (uni ys xs) _ rfl rfl (by have := Lu1.out; omega) Su1.out Su2.out).mono ?_
  rintro e w7 ⟨rfl, hb⟩
  have BB := Lib.hid (BB.out.trans (hb.mono BB.out.size))
  have Sa := Lib.hid (Sa.out.below hb)
  have Sb := Lib.hid (Sb.out.below hb)
  have Sc := Lib.hid (Sc.out.below hb)
  have Su1 := Lib.hid (Su1.out.below hb)
  have Su2 := Lib.hid (Su2.out.below hb)
  clear hb
  rw [decide_eq_true E1.out]
  clear Su1 Fu1 Lu1
  clear Su2 Fu2 Lu2
  go_wp2_with fail
  refine (sUnion a b _ _ ca cb (xs) (ys) _ rfl rfl (by have := La.out; omega) (by have := Lb.out; omega) Sa.out Sb.out).mono ?_
  rintro e w8 ⟨⟨au3, cu3, rfl, hA, hF⟩, hb⟩
  have BB := Lib.hid (BB.out.trans (hb.mono BB.out.size))
  have Sa := Lib.hid (Sa.out.below hb)
  have Sb := Lib.hid (Sb.out.below hb)
  have Sc := Lib.hid (Sc.out.below hb)
  have Su3 := Lib.hid hA
  have Fu3 := Lib.hid hF
  have Lu3 := Lib.hid ((by have h1 := La.out; have h2 := Lb.out; have h3 := those_len (fun p q => p || q) (xs) (ys); change (uni (xs) (ys)).length ≤ _ at h3; omega : (uni xs ys).length ≤ 400))
  clear hb hA hF
  go_wp2_with fail
  refine (sUnion au3 c _ _ cu3 cc (uni xs ys) (zs) _ rfl rfl (by have := Lu3.out; omega) (by have := Lc.out; omega) Su3.out Sc.out).mono ?_
  rintro e w9 ⟨⟨au4, cu4, rfl, hA, hF⟩, hb⟩
  have BB := Lib.hid (BB.out.trans (hb.mono BB.out.size))
  have Sa := Lib.hid (Sa.out.below hb)
  have Sb := Lib.hid (Sb.out.below hb)
  have Sc := Lib.hid (Sc.out.below hb)
  have Su3 := Lib.hid (Su3.out.below hb)
  have Su4 := Lib.hid hA
  have Fu4 := Lib.hid hF
  have Lu4 := Lib.hid ((by have h1 := Lu3.out; have h2 := Lc.out; have h3 := those_len (fun p q => p || q) (uni xs ys) (zs); change (uni (uni xs ys) (zs)).length ≤ _ at h3; omega : (uni (uni xs ys) (zs)).length ≤ 600))
  clear hb hA hF
  go_wp2_with fail
  refine (sUnion b c _ _ cb cc (ys) (zs) _ rfl rfl (by have := Lb.out; omega) (by have := Lc.out; omega) Sb.out Sc.out).mono ?_
  rintro e w10 ⟨⟨au5, cu5, rfl, hA, hF⟩, hb⟩
  have BB := Lib.hid (BB.out.trans (hb.mono BB.out.size))
  have Sa := Lib.hid (Sa.out.below hb)
  have Sb := Lib.hid (Sb.out.below hb)
  have Sc := Lib.hid (Sc.out.below hb)
  have Su3 := Lib.hid (Su3.out.below hb)
  have Su4 := Lib.hid (Su4.out.below hb)
  have Su5 := Lib.hid hA
  have Fu5 := Lib.hid hF
  have Lu5 := Lib.hid ((by have h1 := Lb.out; have h2 := Lc.out; have h3 := those_len (fun p q => p || q) (ys) (zs); change (uni (ys) (zs)).length ≤ _ at h3; omega : (uni ys zs).length ≤ 400))
  clear hb hA hF
  go_wp2_with fail
  refine (sUnion a au5 _ _ ca cu5 (xs) (uni ys zs) _ rfl rfl (by have := La.out; omega) (by have := Lu5.out; omega) Sa.out Su5.out).mono ?_
  rintro e w11 ⟨⟨au6, cu6, rfl, hA, hF⟩, hb⟩
  have BB := Lib.hid (BB.out.trans (hb.mono BB.out.size))
  have Sa := Lib.hid (Sa.out.below hb)
  have Sb := Lib.hid (Sb.out.below hb)
  have Sc := Lib.hid (Sc.out.below hb)
  have Su3 := Lib.hid (Su3.out.below hb)
  have Su4 := Lib.hid (Su4.out.below hb)
  have Su5 := Lib.hid (Su5.out.below hb)
  have Su6 := Lib.hid hA
  have Fu6 := Lib.hid hF
  have Lu6 := Lib.hid ((by have h1 := La.out; have h2 := Lu5.out; have h3 := those_len (fun p q => p || q) (xs) (uni ys zs); change (uni (xs) (uni ys zs)).length ≤ _ at h3; omega : (uni (xs) (uni ys zs)).length ≤ 600))
  clear hb hA hF
  go_wp2_with fail
  refine (sSame au4 au6 _ _ cu4 cu6 (uni (uni xs ys) (zs)) (uni (xs) (uni ys zs)) _ rfl rfl (by have := Lu4.out; omega) Su4.out Su6.out).mono ?_
  rintro e w12 ⟨rfl, hb⟩
  have BB := Lib.hid (BB.out.trans (hb.mono BB.out.size))
  have Sa := Lib.hid (Sa.out.below hb)
  have Sb := Lib.hid (Sb.out.below hb)
  have Sc := Lib.hid (Sc.out.below hb)
  have Su3 := Lib.hid (Su3.out.below hb)
  have Su4 := Lib.hid (Su4.out.below hb)
  have Su5 := Lib.hid (Su5.out.below hb)
  have Su6 := Lib.hid (Su6.out.below hb)
  clear hb
  rw [decide_eq_true E2.out]
  clear Su3 Fu3 Lu3
  clear Su4 Fu4 Lu4
  clear Su5 Fu5 Lu5
  clear Su6 Fu6 Lu6
  go_wp2_with fail
  refine (sInter a b _ _ ca cb (xs) (ys) _ rfl rfl (by have := La.out; omega) (by have := Lb.out; omega) Sa.out Sb.out).mono ?_
  rintro e w13 ⟨⟨ai1, ci1, rfl, hA, hF⟩, hb⟩
  have BB := Lib.hid (BB.out.trans (hb.mono BB.out.size))
  have Sa := Lib.hid (Sa.out.below hb)
  have Sb := Lib.hid (Sb.out.below hb)
  have Sc := Lib.hid (Sc.out.below hb)
  have Si1 := Lib.hid hA
  have Fi1 := Lib.hid hF
  have Li1 := Lib.hid (Nat.le_trans (int_len (xs) (ys)) La.out)
  clear hb hA hF
  go_wp2_with fail
  refine (sInter b a _ _ cb ca (ys) (xs) _ rfl rfl (by have := Lb.out; omega) (by have := La.out; omega) Sb.out Sa.out).mono ?_
  rintro e w14 ⟨⟨ai2, ci2, rfl, hA, hF⟩, hb⟩
  have BB := Lib.hid (BB.out.trans (hb.mono BB.out.size))
  have Sa := Lib.hid (Sa.out.below hb)
  have Sb := Lib.hid (Sb.out.below hb)
  have Sc := Lib.hid (Sc.out.below hb)
  have Si1 := Lib.hid (Si1.out.below hb)
  have Si2 := Lib.hid hA
  have Fi2 := Lib.hid hF
  have Li2 := Lib.hid (Nat.le_trans (int_len (ys) (xs)) Lb.out)
  clear hb hA hF
  go_wp2_with fail
  refine (sSame ai1 ai2 _ _ ci1 ci2 (int xs ys) (int ys xs) _ rfl rfl (by have := Li1.out; omega) Si1.out Si2.out).mono ?_
  rintro e w15 ⟨rfl, hb⟩
  have BB := Lib.hid (BB.out.trans (hb.mono BB.out.size))
  have Sa := Lib.hid (Sa.out.below hb)
  have Sb := Lib.hid (Sb.out.below hb)
  have Sc := Lib.hid (Sc.out.below hb)
  have Si1 := Lib.hid (Si1.out.below hb)
  have Si2 := Lib.hid (Si2.out.below hb)
  clear hb
  rw [decide_eq_true E3.out]
  clear Si1 Fi1 Li1
  clear Si2 Fi2 Li2
  go_wp2_with fail
  refine (sInter a b _ _ ca cb (xs) (ys) _ rfl rfl (by have := La.out; omega) (by have := Lb.out; omega) Sa.out Sb.out).mono ?_
  rintro e w16 ⟨⟨ai3, ci3, rfl, hA, hF⟩, hb⟩
  have BB := Lib.hid (BB.out.trans (hb.mono BB.out.size))
  have Sa := Lib.hid (Sa.out.below hb)
  have Sb := Lib.hid (Sb.out.below hb)
  have Sc := Lib.hid (Sc.out.below hb)
  have Si3 := Lib.hid hA
  have Fi3 := Lib.hid hF
  have Li3 := Lib.hid (Nat.le_trans (int_len (xs) (ys)) La.out)
  clear hb hA hF
  go_wp2_with fail
  refine (sMinus a b _ _ ca cb (xs) (ys) _ rfl rfl (by have := La.out; omega) (by have := Lb.out; omega) Sa.out Sb.out).mono ?_
  rintro e w17 ⟨⟨am1, cm1, rfl, hA, hF⟩, hb⟩
  have BB := Lib.hid (BB.out.trans (hb.mono BB.out.size))
  have Sa := Lib.hid (Sa.out.below hb)
  have Sb := Lib.hid (Sb.out.below hb)
  have Sc := Lib.hid (Sc.out.below hb)
  have Si3 := Lib.hid (Si3.out.below hb)
  have Sm1 := Lib.hid hA
  have Fm1 := Lib.hid hF
  have Lm1 := Lib.hid (Nat.le_trans (dif_len (xs) (ys)) La.out)
  clear hb hA hF
  go_wp2_with fail
  refine (sMinus a am1 _ _ ca cm1 (xs) (dif xs ys) _ rfl rfl (by have := La.out; omega) (by have := Lm1.out; omega) Sa.out Sm1.out).mono ?_
  rintro e w18 ⟨⟨am2, cm2, rfl, hA, hF⟩, hb⟩
  have BB := Lib.hid (BB.out.trans (hb.mono BB.out.size))
  have Sa := Lib.hid (Sa.out.below hb)
  have Sb := Lib.hid (Sb.out.below hb)
  have Sc := Lib.hid (Sc.out.below hb)
  have Si3 := Lib.hid (Si3.out.below hb)
  have Sm1 := Lib.hid (Sm1.out.below hb)
  have Sm2 := Lib.hid hA
  have Fm2 := Lib.hid hF
  have Lm2 := Lib.hid (Nat.le_trans (dif_len (xs) (dif xs ys)) La.out)
  clear hb hA hF
  go_wp2_with fail
  refine (sSame ai3 am2 _ _ ci3 cm2 (int xs ys) (dif (xs) (dif xs ys)) _ rfl rfl (by have := Li3.out; omega) Si3.out Sm2.out).mono ?_
  rintro e w19 ⟨rfl, hb⟩
  have BB := Lib.hid (BB.out.trans (hb.mono BB.out.size))
  have Sa := Lib.hid (Sa.out.below hb)
  have Sb := Lib.hid (Sb.out.below hb)
  have Sc := Lib.hid (Sc.out.below hb)
  have Si3 := Lib.hid (Si3.out.below hb)
  have Sm1 := Lib.hid (Sm1.out.below hb)
  have Sm2 := Lib.hid (Sm2.out.below hb)
  clear hb
  rw [decide_eq_true E4.out]
  clear Si3 Fi3 Li3
  clear Sm1 Fm1 Lm1
  clear Sm2 Fm2 Lm2
  go_wp2_with fail
  refine (sUnion a a _ _ ca ca (xs) (xs) _ rfl rfl (by have := La.out; omega) (by have := La.out; omega) Sa.out Sa.out).mono ?_
  rintro e w20 ⟨⟨au7, cu7, rfl, hA, hF⟩, hb⟩
  have BB := Lib.hid (BB.out.trans (hb.mono BB.out.size))
  have Sa := Lib.hid (Sa.out.below hb)
  have Sb := Lib.hid (Sb.out.below hb)
  have Sc := Lib.hid (Sc.out.below hb)
  have Su7 := Lib.hid hA
  have Fu7 := Lib.hid hF
  have Lu7 := Lib.hid ((by have h1 := La.out; have h2 := La.out; have h3 := those_len (fun p q => p || q) (xs) (xs); change (uni (xs) (xs)).length ≤ _ at h3; omega : (uni xs xs).length ≤ 400))
  clear hb hA hF
  go_wp2_with fail
  refine (sSame au7 a _ _ cu7 ca (uni xs xs) (xs) _ rfl rfl (by have := Lu7.out; omega) Su7.out Sa.out).mono ?_
  rintro e w21 ⟨rfl, hb⟩
  have BB := Lib.hid (BB.out.trans (hb.mono BB.out.size))
  have Sa := Lib.hid (Sa.out.below hb)
  have Sb := Lib.hid (Sb.out.below hb)
  have Sc := Lib.hid (Sc.out.below hb)
  have Su7 := Lib.hid (Su7.out.below hb)
  clear hb
  rw [decide_eq_true E5.out]
  clear Su7 Fu7 Lu7
  go_wp2_with fail
  refine (sInter a a _ _ ca ca (xs) (xs) _ rfl rfl (by have := La.out; omega) (by have := La.out; omega) Sa.out Sa.out).mono ?_
  rintro e w22 ⟨⟨ai4, ci4, rfl, hA, hF⟩, hb⟩
  have BB := Lib.hid (BB.out.trans (hb.mono BB.out.size))
  have Sa := Lib.hid (Sa.out.below hb)
  have Sb := Lib.hid (Sb.out.below hb)
  have Sc := Lib.hid (Sc.out.below hb)
  have Si4 := Lib.hid hA
  have Fi4 := Lib.hid hF
  have Li4 := Lib.hid (Nat.le_trans (int_len (xs) (xs)) La.out)
  clear hb hA hF
  go_wp2_with fail
  refine (sSame ai4 a _ _ ci4 ca (int xs xs) (xs) _ rfl rfl (by have := Li4.out; omega) Si4.out Sa.out).mono ?_
  rintro e w23 ⟨rfl, hb⟩
  have BB := Lib.hid (BB.out.trans (hb.mono BB.out.size))
  have Sa := Lib.hid (Sa.out.below hb)
  have Sb := Lib.hid (Sb.out.below hb)
  have Sc := Lib.hid (Sc.out.below hb)
  have Si4 := Lib.hid (Si4.out.below hb)
  clear hb
  rw [decide_eq_true E6.out]
  clear Si4 Fi4 Li4
  go_wp2_with fail
  refine (sMinus a a _ _ ca ca (xs) (xs) _ rfl rfl (by have := La.out; omega) (by have := La.out; omega) Sa.out Sa.out).mono ?_
  rintro e w24 ⟨⟨am3, cm3, rfl, hA, hF⟩, hb⟩
  have BB := Lib.hid (BB.out.trans (hb.mono BB.out.size))
  have Sa := Lib.hid (Sa.out.below hb)
  have Sb := Lib.hid (Sb.out.below hb)
  have Sc := Lib.hid (Sc.out.below hb)
  have Sm3 := Lib.hid hA
  have Fm3 := Lib.hid hF
  have Lm3 := Lib.hid (Nat.le_trans (dif_len (xs) (xs)) La.out)
  clear hb hA hF
  rw [E7.out, List.length_nil]
  clear Sm3 Fm3 Lm3
  go_wp2_with fail
  refine (sUnion b c _ _ cb cc (ys) (zs) _ rfl rfl (by have := Lb.out; omega) (by have := Lc.out; omega) Sb.out Sc.out).mono ?_
  rintro e w25 ⟨⟨au8, cu8, rfl, hA, hF⟩, hb⟩
  have BB := Lib.hid (BB.out.trans (hb.mono BB.out.size))
  have Sa := Lib.hid (Sa.out.below hb)
  have Sb := Lib.hid (Sb.out.below hb)
  have Sc := Lib.hid (Sc.out.below hb)
  have Su8 := Lib.hid hA
  have Fu8 := Lib.hid hF
  have Lu8 := Lib.hid ((by have h1 := Lb.out; have h2 := Lc.out; have h3 := those_len (fun p q => p || q) (ys) (zs); change (uni (ys) (zs)).length ≤ _ at h3; omega : (uni ys zs).length ≤ 400))
  clear hb hA hF
  go_wp2_with fail
  refine (sInter a au8 _ _ ca cu8 (xs) (uni ys zs) _ rfl rfl (by have := La.out; omega) (by have := Lu8.out; omega) Sa.out Su8.out).mono ?_
  rintro e w26 ⟨⟨ai5, ci5, rfl, hA, hF⟩, hb⟩
  have BB := Lib.hid (BB.out.trans (hb.mono BB.out.size))
  have Sa := Lib.hid (Sa.out.below hb)
  have Sb := Lib.hid (Sb.out.below hb)
  have Sc := Lib.hid (Sc.out.below hb)
  have Su8 := Lib.hid (Su8.out.below hb)
  have Si5 := Lib.hid hA
  have Fi5 := Lib.hid hF
  have Li5 := Lib.hid (Nat.le_trans (int_len (xs) (uni ys zs)) La.out)
  clear hb hA hF
  go_wp2_with fail
  refine (sInter a b _ _ ca cb (xs) (ys) _ rfl rfl (by have := La.out; omega) (by have := Lb.out; omega) Sa.out Sb.out).mono ?_
  rintro e w27 ⟨⟨ai6, ci6, rfl, hA, hF⟩, hb⟩
  have BB := Lib.hid (BB.out.trans (hb.mono BB.out.size))
  have Sa := Lib.hid (Sa.out.below hb)
  have Sb := Lib.hid (Sb.out.below hb)
  have Sc := Lib.hid (Sc.out.below hb)
  have Su8 := Lib.hid (Su8.out.below hb)
  have Si5 := Lib.hid (Si5.out.below hb)
  have Si6 := Lib.hid hA
  have Fi6 := Lib.hid hF
  have Li6 := Lib.hid (Nat.le_trans (int_len (xs) (ys)) La.out)
  clear hb hA hF
  go_wp2_with fail
  refine (sInter a c _ _ ca cc (xs) (zs) _ rfl rfl (by have := La.out; omega) (by have := Lc.out; omega) Sa.out Sc.out).mono ?_
  rintro e w28 ⟨⟨ai7, ci7, rfl, hA, hF⟩, hb⟩
  have BB := Lib.hid (BB.out.trans (hb.mono BB.out.size))
  have Sa := Lib.hid (Sa.out.below hb)
  have Sb := Lib.hid (Sb.out.below hb)
  have Sc := Lib.hid (Sc.out.below hb)
  have Su8 := Lib.hid (Su8.out.below hb)
  have Si5 := Lib.hid (Si5.out.below hb)
  have Si6 := Lib.hid (Si6.out.below hb)
  have Si7 := Lib.hid hA
  have Fi7 := Lib.hid hF
  have Li7 := Lib.hid (Nat.le_trans (int_len (xs) (zs)) La.out)
  clear hb hA hF
  go_wp2_with fail
  refine (sUnion ai6 ai7 _ _ ci6 ci7 (int xs ys) (int xs zs) _ rfl rfl (by have := Li6.out; omega) (by have := Li7.out; omega) Si6.out Si7.out).mono ?_
  rintro e w29 ⟨⟨au9, cu9, rfl, hA, hF⟩, hb⟩
  have BB := Lib.hid (BB.out.trans (hb.mono BB.out.size))
  have Sa := Lib.hid (Sa.out.below hb)
  have Sb := Lib.hid (Sb.out.below hb)
  have Sc := Lib.hid (Sc.out.below hb)
  have Su8 := Lib.hid (Su8.out.below hb)
  have Si5 := Lib.hid (Si5.out.below hb)
  have Si6 := Lib.hid (Si6.out.below hb)
  have Si7 := Lib.hid (Si7.out.below hb)
  have Su9 := Lib.hid hA
  have Fu9 := Lib.hid hF
  have Lu9 := Lib.hid ((by have h1 := Li6.out; have h2 := Li7.out; have h3 := those_len (fun p q => p || q) (int xs ys) (int xs zs); change (uni (int xs ys) (int xs zs)).length ≤ _ at h3; omega : (uni (int xs ys) (int xs zs)).length ≤ 400))
  clear hb hA hF
  go_wp2_with fail
  refine (sSame ai5 au9 _ _ ci5 cu9 (int (xs) (uni ys zs)) (uni (int xs ys) (int xs zs)) _ rfl rfl (by have := Li5.out; omega) Si5.out Su9.out).mono ?_
  rintro e w30 ⟨rfl, hb⟩
  have BB := Lib.hid (BB.out.trans (hb.mono BB.out.size))
  have Sa := Lib.hid (Sa.out.below hb)
  have Sb := Lib.hid (Sb.out.below hb)
  have Sc := Lib.hid (Sc.out.below hb)
  have Su8 := Lib.hid (Su8.out.below hb)
  have Si5 := Lib.hid (Si5.out.below hb)
  have Si6 := Lib.hid (Si6.out.below hb)
  have Si7 := Lib.hid (Si7.out.below hb)
  have Su9 := Lib.hid (Su9.out.below hb)
  clear hb
  rw [decide_eq_true E8.out]
  go_wp2_with fail
  go_ret
  exact ⟨rfl, BB.out⟩
theorem walk (w : World) (a : Option Addr) (ca : Nat) (xs : List Int) (sa : As w a xs) (fa : Flat a xs.length ca) (na : xs.length ≤ 1125899906842624) (b : Option Addr) (cb : Nat) (ys : List Int) (sb : As w b ys) (fb : Flat b ys.length cb) (nb : ys.length ≤ 1125899906842624) (c : Option Addr) (cc : Nat) (zs : List Int) (sc : As w c zs) (fc : Flat c zs.length cc) (nc : zs.length ≤ 1125899906842624) :
    Calls Try.prog 7 #[.slice a xs.length ca, .slice b ys.length cb, .slice c zs.length cc] w fun e w' => e = .returned (.bool true) ∧ Below w.heap.size w w' := by
  by_cases q : xs.length + ys.length + zs.length ≤ 200
  · by_cases i1 : Inc xs
    · by_cases i2 : Inc ys
      · by_cases i3 : Inc zs
        · exact walk4 w a ca xs sa fa na b cb ys sb fb nb c cc zs sc fc nc q i1 i2 i3
        · exact walk3 w a ca xs sa fa na b cb ys sb fb nb c cc zs sc fc nc q i1 i2 i3
      · exact walk2 w a ca xs sa fa na b cb ys sb fb nb c cc zs sc fc nc q i1 i2
    · exact walk1 w a ca xs sa fa na b cb ys sb fb nb c cc zs sc fc nc q i1
  · exact walk0 w a ca xs sa fa na b cb ys sb fb nb c cc zs sc fc nc q

theorem contract (H : Type) (enc : TypeId × Value → H) (W : World) (base : Nat) (args : Array Value) (ds gs : List (DataW H)) (before : List MemPlace)
    (hval : ∀ (j : Nat) t v, Try.f7.params[j]? = some t → args[j]? = some v → Value.okWide Try.prog W .any base t v)
    (hW : DataW.Whole enc Try.prog Try.f7.params.toList Rows.setLawsSpec.vars false W args.toList ds gs before) (hsz : (DataW.weightsEach Try.prog (Try.f7.params.toList ++ Rows.setLawsSpec.plain.varTypes Try.prog) (ds ++ gs)).all (· ≤ reachBytes) = true) :
    Calls Try.prog 7 args W fun e W' => ∃ v, e = .returned v ∧ Rows.setLawsSpec.post enc Try.prog Try.f7 false true false false W args v W' := by
  have hW' := hW
  obtain ⟨p, q, hA0, hV, rfl, hfz, hnd⟩ := hW
  have hA : DataW.TrodAll enc Try.prog W 0 (fun _ => true) true Try.f7.params.toList args.toList ds p := hA0
  rw [Try.params7] at hA hval
  obtain ⟨v0, vs0, d0, ds0, p0, q0, hargs, rfl, rfl, h0, r0⟩ := trodAll_cons hA
  obtain ⟨v1, vs1, d1, ds1, p1, q1, rfl, rfl, rfl, h1, r1⟩ := trodAll_cons r0
  obtain ⟨v2, vs2, d2, ds2, p2, q2, rfl, rfl, rfl, h2, r2⟩ := trodAll_cons r1
  obtain ⟨rfl, rfl, rfl⟩ := trodAll_nil r2
  obtain rfl : args = #[v0, v1, v2] := by cases args; simp_all
  obtain ⟨rfl, rfl⟩ := trodVars_none hV
  have k0 := h0
  have lt0 : ∀ x ∈ p0, x.block < W.heap.size := by obtain ⟨m, hm⟩ := k0; exact DataW.trod_lt m _ _ _ hm
  have k1 := h1
  have lt1 : ∀ x ∈ p1, x.block < W.heap.size := by obtain ⟨m, hm⟩ := k1; exact DataW.trod_lt m _ _ _ hm
  have k2 := h2
  have lt2 : ∀ x ∈ p2, x.block < W.heap.size := by obtain ⟨m, hm⟩ := k2; exact DataW.trod_lt m _ _ _ hm
  obtain ⟨a0, c0, x0, rfl, s0, f0, n0⟩ := open_top (hval 0 22 v0 rfl rfl) h0 (fun x hx => by simpa using List.all_eq_true.1 hsz _ (DataW.weights_mem_each (j := 0) rfl rfl x hx))
  obtain ⟨a1, c1, x1, rfl, s1, f1, n1⟩ := open_top (hval 1 22 v1 rfl rfl) h1 (fun x hx => by simpa using List.all_eq_true.1 hsz _ (DataW.weights_mem_each (j := 1) rfl rfl x hx))
  obtain ⟨a2, c2, x2, rfl, s2, f2, n2⟩ := open_top (hval 2 22 v2 rfl rfl) h2 (fun x hx => by simpa using List.all_eq_true.1 hsz _ (DataW.weights_mem_each (j := 2) rfl rfl x hx))
  clear hA0
  refine (walk W a0 c0 x0 s0 f0 n0 a1 c1 x1 s1 f1 n1 a2 c2 x2 s2 f2 n2).mono fun e W' ⟨he, bel⟩ => ?_
  subst he
  exact ⟨_, rfl, _, _, _, [], _, [], hW', trodAll_mk1 (shut_bool Try.underlying4 _), (trodAll_cons_mk (Below.trod laidOut (by kernel_rfl) (of_decide_eq_true (by kernel_rfl)) k0 bel lt0) (trodAll_cons_mk (Below.trod laidOut (by kernel_rfl) (of_decide_eq_true (by kernel_rfl)) k1 bel lt1) (trodAll_cons_mk (Below.trod laidOut (by kernel_rfl) (of_decide_eq_true (by kernel_rfl)) k2 bel lt2) trodAll_mk0))), rfl, bel.frame _, fun h => by cases h⟩

set_option maxRecDepth 100000 in
theorem lifted (os : Os) (started : os.Started) (H : Type) (enc : TypeId × Value → H) :
    ReturnsInHanded {} Try.checked os 7 .any (Rows.setLawsSpec.pre6 enc Try.prog Try.f7 Rows.setLawsRow.domain false) (Rows.setLawsSpec.post enc Try.prog Try.f7 false true false false) := by
  refine returnsInHanded_of_change_sized (C := Try.checked) own started (by kernel_rfl) Try.func7
    (ChangeSpec.witness6 (enc := enc) (C := Try.checked) false ⟨#[], #[(.slice none 0 0), (.slice none 0 0), (.slice none 0 0)], []⟩ 8 (by kernel_rfl) (by kernel_rfl) (by kernel_rfl) (by kernel_rfl)) ?_
  intro W base args ds gs before hval hW hcnd hsz _
  exact contract H enc W base args ds gs before hval hW hsz
theorem said : Rows.SetLawsSaid :=
  OpenClaim.holds_of_wide 7 Try.f7 rfl rfl rfl rfl rfl rfl rfl ⟨rfl, rfl, rfl, rfl, rfl⟩ rfl rfl rfl rfl rfl (by kernel_rfl) Try.func7 (by kernel_rfl)
    (of_decide_eq_true (by kernel_rfl)) (by unfold Func.isWrapper; first | (rw [if_pos (by decide +kernel)]; kernel_rfl) | (rw [if_neg (by decide +kernel)]; exact ⟨rfl, rfl⟩))
    (fun os started H enc _ => lifted os started H enc)
#print axioms said
end Go.Proofs.Ytikanaabecmkcaa.setLaws
