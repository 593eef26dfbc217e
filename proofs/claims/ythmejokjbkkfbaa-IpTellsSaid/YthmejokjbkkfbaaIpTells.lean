/- The law IpTells: every call returns true, and its arguments read behind the call as before it. Condition: none but the row's own. -/
import Derived.Test.YthmejokjbkkfbaaFs4
namespace Go.Proofs.Ythmejokjbkkfbaa.ipTells
set_option linter.unusedVariables false
open Go.ChangeShapes Go.WideShapes Go.ChangeAt Go.RowKit
open Go.ChangeMaps (open_string shut_string)

set_option maxRecDepth 100000 in
set_option maxHeartbeats 4000000 in
theorem walk (w : World) (s : Int) (hs : 0 ≤ s ∧ s ≤ 4294967295) (d : Int) (hd : 0 ≤ d ∧ d ≤ 4294967295) (p : Int) (hp : 0 ≤ p ∧ p ≤ 255) (t : Int) (ht : 0 ≤ t ∧ t ≤ 255) (i : Int) (hi : 0 ≤ i ∧ i ≤ 65535) (al : Bool)
    (a1 : Option Addr) (n1 c1 : Nat) (xs : List Int) (hx : xs.length = n1) (hm1 : n1 ≤ 9223372036854775807) (hb1 : Bs w a1 xs) (hnil1 : a1 = none → n1 = 0 ∧ c1 = 0)
    (a2 : Option Addr) (n2 c2 : Nat) (ys : List Int) (hy : ys.length = n2) (hm2 : n2 ≤ 9223372036854775807) (hb2 : Bs w a2 ys) (hnil2 : a2 = none → n2 = 0 ∧ c2 = 0) (hnc2 : n2 ≤ c2) :
    Calls Try.prog 3 #[.agg #[.int .u32 s, .int .u32 d, .int .u8 p, .int .u8 t, .int .u16 i, .bool al], .slice a1 n1 c1, .slice a2 n2 c2] w fun e w' => e = .returned (.bool true) ∧ Below w.heap.size w w' := by
  obtain ⟨h, hh⟩ : ∃ h : Hdr, h = ⟨s, d, p, t, i, al⟩ := ⟨_, rfl⟩
  have hk : h.ok := by rw [hh]; exact ⟨hs, hd, hp, ht, hi⟩
  obtain ⟨rfl, rfl, rfl, rfl, rfl, rfl⟩ : s = h.src ∧ d = h.dst ∧ p = h.proto ∧ t = h.ttl ∧ i = h.id ∧ al = h.alert := by rw [hh]; exact ⟨rfl, rfl, rfl, rfl, rfl, rfl⟩
  have HK := Lib.hid hk
  have HX := Lib.hid hx
  have HB1 := Lib.hid hb1
  have HN1 := Lib.hid hnil1
  have HY := Lib.hid hy
  have HB2 := Lib.hid hb2
  have BX0 := Lib.hid (HBox.new w h)
  clear hh hk hs hd hp ht hi hx hb1 hnil1 hy hb2 hnil2
  by_cases q1 : 2000 < n1
  · go_enter Try.func3, Try.ntmps3
    go_wp2_with (go_at_call 9; refine (iShown _).mono ?_; rintro e w1 ⟨rfl, hb⟩)
    go_ret
    exact ⟨rfl, step hb⟩
  by_cases q2 : 2000 < n2
  · go_enter Try.func3, Try.ntmps3
    go_wp2_with (go_at_call 9; refine (iShown _).mono ?_; rintro e w1 ⟨rfl, hb⟩)
    go_ret
    exact ⟨rfl, step hb⟩
  go_enter Try.func3, Try.ntmps3
  go_wp2_with (first
    | (go_at_call 9; refine (iShown _).mono ?_; rintro e w1 ⟨rfl, hb⟩; have W1 := Lib.hid (step hb); have BX1 := Lib.hid (BX0.out.keep hb); obtain ⟨k0, k1, k2, k3, k4, k5⟩ := BX1.out.cells; clear hb)
    | (go_at_call 10; refine (iEncodeA h a1 n1 c1 xs _ HK.out HX.out hm1 (bs_below HB1.out W1.out) HN1.out).mono ?_; rintro e w2 ⟨v, rfl, ⟨ax, cx, rfl, hbx, -⟩, hb⟩; have W2 := Lib.hid (W1.out.trans (hb.mono W1.out.size)); have BX2 := Lib.hid (BX1.out.keep hb); obtain ⟨l0, l1, l2, l3, l4, l5⟩ := BX2.out.cells; have XX := Lib.hid hbx; clear hb hbx)
    | (go_at_call 11; refine (rEncodeA h a1 n1 c1 xs _ HK.out HX.out (by omega) (bs_below HB1.out W2.out) HN1.out).mono ?_; rintro e w3 ⟨v, rfl, ⟨ay, cy, rfl, hby, -⟩, hb⟩; have W3 := Lib.hid (W2.out.trans (hb.mono W2.out.size)); have XX := Lib.hid (bs_below XX.out hb); have YY := Lib.hid hby; clear hb hby)
    | (go_at_call 12; refine (iDecode a2 n2 c2 ys _ HY.out (by omega) hnc2 (bs_below HB2.out W3.out)).mono ?_; rintro e w4 ⟨v, rfl, ⟨au, cu, rfl, hbu, -⟩, hb⟩; have W4 := Lib.hid (W3.out.trans (hb.mono W3.out.size)); have XX := Lib.hid (bs_below XX.out hb); have YY := Lib.hid (bs_below YY.out hb); have UU := Lib.hid hbu; have BG := Lib.hid (HBox.new w4 (decH ys)); clear hb hbu)
    | (go_at_call 13; refine (rDecode a2 n2 c2 ys _ HY.out (by omega) hnc2 (bs_below HB2.out (W4.out.alloc W4.out.size _))).mono ?_; rintro e w5 ⟨v, rfl, ⟨av, cv, rfl, hbv, -⟩, hb⟩; have W5 := Lib.hid (W4.out.trans ((step hb).mono W4.out.size)); have XX := Lib.hid (bs_below XX.out (step hb)); have YY := Lib.hid (bs_below YY.out (step hb)); have UU := Lib.hid (bs_below UU.out (step hb)); have VV := Lib.hid hbv; have BG := Lib.hid (BG.out.keep hb); have BK := Lib.hid (HBox.new w5 (decH ys)); clear hb hbv)
    | (go_at_call 14; refine (iPassed a2 n2 c2 ys _ HY.out (by omega) hnc2 (bs_below HB2.out (W5.out.alloc W5.out.size _))).mono ?_; rintro e w6 ⟨v, rfl, ⟨ap, cp, rfl, hbp, -⟩, hb⟩; have W6 := Lib.hid (W5.out.trans ((step hb).mono W5.out.size)); have XX := Lib.hid (bs_below XX.out (step hb)); have YY := Lib.hid (bs_below YY.out (step hb)); have UU := Lib.hid (bs_below UU.out (step hb)); have VV := Lib.hid (bs_below VV.out (step hb)); have PP := Lib.hid hbp; have BG := Lib.hid (BG.out.keep (step hb)); have BK := Lib.hid (BK.out.keep hb); clear hb hbp)
    | (go_at_call 15; refine (rPassed a2 n2 c2 ys _ HY.out (by omega) hnc2 (bs_below HB2.out W6.out)).mono ?_; rintro e w7 ⟨v, rfl, ⟨aq, cq, rfl, hbq, -⟩, hb⟩; have W7 := Lib.hid (W6.out.trans (hb.mono W6.out.size)); have XX := Lib.hid (bs_below XX.out hb); have YY := Lib.hid (bs_below YY.out hb); have UU := Lib.hid (bs_below UU.out hb); have VV := Lib.hid (bs_below VV.out hb); have PP := Lib.hid (bs_below PP.out hb); have QQ := Lib.hid hbq; have BG := Lib.hid (BG.out.keep hb); have BK := Lib.hid (BK.out.keep hb); clear hb hbq)
    | (go_at_call_of 16 ax; refine (rSame ax ay _ _ cx cy (encB h xs) (encB h xs) _ rfl rfl ?_ XX.out YY.out).mono ?_; exact Nat.le_trans (encB_len h xs) (by omega); rw [same_refl]; rintro e w8 ⟨rfl, hb⟩; have W8 := Lib.hid (W7.out.trans (hb.mono W7.out.size)); have UU := Lib.hid (bs_below UU.out hb); have VV := Lib.hid (bs_below VV.out hb); have PP := Lib.hid (bs_below PP.out hb); have QQ := Lib.hid (bs_below QQ.out hb); have BG := Lib.hid (BG.out.keep hb); have BK := Lib.hid (BK.out.keep hb); obtain ⟨m0, m1, m2, m3, m4, m5⟩ := BG.out.cells; obtain ⟨n0, n1', n2', n3, n4, n5⟩ := BK.out.cells; clear hb)
    | (go_at_call_of 16 au; refine (rSame au av _ _ cu cv (decB ys) (decB ys) _ rfl rfl ?_ UU.out VV.out).mono ?_; exact Nat.le_trans (decB_len ys) (by have := HY.out; omega); rw [same_refl]; rintro e w9 ⟨rfl, hb⟩; have W9 := Lib.hid (W8.out.trans (hb.mono W8.out.size)); have PP := Lib.hid (bs_below PP.out hb); have QQ := Lib.hid (bs_below QQ.out hb); clear hb)
    | (go_at_call_of 16 ap; refine (rSame ap aq _ _ cp cq (passB ys) (passB ys) _ rfl rfl ?_ PP.out QQ.out).mono ?_; exact Nat.le_trans (passB_len ys PP.out.2) (by omega); rw [same_refl]; rintro e w10 ⟨rfl, hb⟩; have W10 := Lib.hid (W9.out.trans (hb.mono W9.out.size)); clear hb))
  go_ret
  exact ⟨rfl, W10.out⟩

theorem contract (H : Type) (enc : TypeId × Value → H) (W : World) (base : Nat) (args : Array Value) (ds gs : List (DataW H)) (before : List MemPlace)
    (hval : ∀ (j : Nat) t v, Try.f3.params[j]? = some t → args[j]? = some v → Value.okWide Try.prog W .any base t v)
    (hW : DataW.Whole enc Try.prog Try.f3.params.toList Rows.ipTellsSpec.vars false W args.toList ds gs before) :
    Calls Try.prog 3 args W fun e W' => ∃ v, e = .returned v ∧ Rows.ipTellsSpec.post enc Try.prog Try.f3 false true false false W args v W' := by
  have hW' := hW
  obtain ⟨p, q, hA0, hV, rfl, hfz, hnd⟩ := hW
  have hA : DataW.TrodAll enc Try.prog W 0 (fun _ => true) true Try.f3.params.toList args.toList ds p := hA0
  rw [Try.params3] at hA hval
  obtain ⟨v0, vs0, d0, ds0, p0, q0, hargs, rfl, rfl, h0, r0⟩ := trodAll_cons hA
  obtain ⟨v1, vs1, d1, ds1, p1, q1, rfl, rfl, rfl, h1, r1⟩ := trodAll_cons r0
  obtain ⟨v2, vs2, d2, ds2, p2, q2, rfl, rfl, rfl, h2, r2⟩ := trodAll_cons r1
  obtain ⟨rfl, rfl, rfl⟩ := trodAll_nil r2
  obtain rfl : args = #[v0, v1, v2] := by cases args; simp_all
  obtain ⟨rfl, rfl⟩ := trodVars_none hV
  have k0 := h0
  have lt0 : ∀ x ∈ p0, x.block < W.heap.size := by obtain ⟨m, hm⟩ := k0; exact DataW.trod_lt m _ _ _ hm
  have k1 := h1
  have lt1 : ∀ x ∈ p1, x.block < W.heap.size := by obtain ⟨m, hm⟩ := k1; exact DataW.trod_lt m _ _ _ hm
  have k2 := h2
  have lt2 : ∀ x ∈ p2, x.block < W.heap.size := by obtain ⟨m, hm⟩ := k2; exact DataW.trod_lt m _ _ _ hm
  obtain ⟨cs0, nf0, rfl, hlen0, hf0⟩ := agg_open Try.underlying26 (by kernel_rfl) (by kernel_rfl) (hval 0 26 v0 rfl rfl) h0
  match cs0, hlen0 with
  | [c0_0, c0_1, c0_2, c0_3, c0_4, c0_5], _ =>
  obtain ⟨_, _, e0_0, t0_0⟩ := hf0 0 _ rfl
  simp at e0_0
  subst e0_0
  obtain ⟨x0_0, q0_0, _, w0_0⟩ := DataW.trod_int Try.underlying23 t0_0
  simp at q0_0
  subst q0_0
  obtain ⟨_, _, e0_1, t0_1⟩ := hf0 1 _ rfl
  simp at e0_1
  subst e0_1
  obtain ⟨x0_1, q0_1, _, w0_1⟩ := DataW.trod_int Try.underlying23 t0_1
  simp at q0_1
  subst q0_1
  obtain ⟨_, _, e0_2, t0_2⟩ := hf0 2 _ rfl
  simp at e0_2
  subst e0_2
  obtain ⟨x0_2, q0_2, _, w0_2⟩ := DataW.trod_int Try.underlying5 t0_2
  simp at q0_2
  subst q0_2
  obtain ⟨_, _, e0_3, t0_3⟩ := hf0 3 _ rfl
  simp at e0_3
  subst e0_3
  obtain ⟨x0_3, q0_3, _, w0_3⟩ := DataW.trod_int Try.underlying5 t0_3
  simp at q0_3
  subst q0_3
  obtain ⟨_, _, e0_4, t0_4⟩ := hf0 4 _ rfl
  simp at e0_4
  subst e0_4
  obtain ⟨x0_4, q0_4, _, w0_4⟩ := DataW.trod_int Try.underlying24 t0_4
  simp at q0_4
  subst q0_4
  obtain ⟨_, _, e0_5, t0_5⟩ := hf0 5 _ rfl
  simp at e0_5
  subst e0_5
  obtain ⟨x0_5, q0_5, _⟩ := DataW.trod_bool Try.underlying4 t0_5
  simp at q0_5
  subst q0_5
  obtain ⟨a1, len1, cap1, rfl⟩ := okWide_slice Try.underlying27 (hval 1 27 v1 rfl rfl)
  obtain ⟨z1, w1⟩ : ∃ zs, IsRow .u8 W a1 len1 cap1 zs := by
    obtain ⟨fuel, hf⟩ := h1
    rcases open_ints Try.underlying27 Try.underlying5 (by kernel_rfl) hf with ⟨hcs, _⟩ | ⟨x, l, c, zs, hcs, _, hl, hm, hz, _, hcell, hwz⟩
    · simp [Value.cells] at hcs
      obtain ⟨rfl, rfl, rfl⟩ := hcs
      exact ⟨[], .inl ⟨rfl, rfl, rfl, rfl⟩⟩
    · simp [Value.cells] at hcs
      obtain ⟨rfl, rfl, rfl⟩ := hcs
      exact ⟨zs, .inr ⟨_, rfl, hl, hm, by simpa using hz, hcell, hwz⟩⟩
  obtain ⟨b1, l1, m1⟩ := bs_of_row w1
  obtain ⟨a2, len2, cap2, rfl⟩ := okWide_slice Try.underlying27 (hval 2 27 v2 rfl rfl)
  obtain ⟨z2, w2⟩ : ∃ zs, IsRow .u8 W a2 len2 cap2 zs := by
    obtain ⟨fuel, hf⟩ := h2
    rcases open_ints Try.underlying27 Try.underlying5 (by kernel_rfl) hf with ⟨hcs, _⟩ | ⟨x, l, c, zs, hcs, _, hl, hm, hz, _, hcell, hwz⟩
    · simp [Value.cells] at hcs
      obtain ⟨rfl, rfl, rfl⟩ := hcs
      exact ⟨[], .inl ⟨rfl, rfl, rfl, rfl⟩⟩
    · simp [Value.cells] at hcs
      obtain ⟨rfl, rfl, rfl⟩ := hcs
      exact ⟨zs, .inr ⟨_, rfl, hl, hm, by simpa using hz, hcell, hwz⟩⟩
  obtain ⟨b2, l2, m2⟩ := bs_of_row w2
  clear hA0
  refine (walk W x0_0 (bounds_u32 w0_0) x0_1 (bounds_u32 w0_1) x0_2 (bounds_u8 w0_2) x0_3 (bounds_u8 w0_3) x0_4 (bounds_u16 w0_4) x0_5 a1 len1 cap1 (z1.take len1) l1 m1 b1 (nil_of_row w1) a2 len2 cap2 (z2.take len2) l2 m2 b2 (nil_of_row w2) (len_cap w2)).mono fun e W' ⟨he, bel⟩ => ?_
  subst he
  exact ⟨_, rfl, _, _, _, [], _, [], hW', trodAll_mk1 (shut_bool Try.underlying4 _), (trodAll_cons_mk (Below.trod laidOut (by kernel_rfl) (of_decide_eq_true (by kernel_rfl)) k0 bel lt0) (trodAll_cons_mk (Below.trod laidOut (by kernel_rfl) (of_decide_eq_true (by kernel_rfl)) k1 bel lt1) (trodAll_cons_mk (Below.trod laidOut (by kernel_rfl) (of_decide_eq_true (by kernel_rfl)) k2 bel lt2) trodAll_mk0))), rfl, bel.frame _, fun h => by cases h⟩

set_option maxRecDepth 100000 in
theorem lifted (os : Os) (started : os.Started) (H : Type) (enc : TypeId × Value → H) :
    ReturnsInHanded {} Try.checked os 3 .any (Rows.ipTellsSpec.pre6 enc Try.prog Try.f3 Rows.ipTellsRow.domain false) (Rows.ipTellsSpec.post enc Try.prog Try.f3 false true false false) := by
  refine returnsInHanded_of_change (C := Try.checked) own started (by kernel_rfl) Try.func3
    (ChangeSpec.witness6 (enc := enc) (C := Try.checked) false ⟨#[], #[(.agg #[(.int .u32 0), (.int .u32 0), (.int .u8 0), (.int .u8 0), (.int .u16 0), (.bool false)]), (.slice none 0 0), (.slice none 0 0)], []⟩ 8 (by kernel_rfl) (by kernel_rfl) (by kernel_rfl) (by kernel_rfl)) ?_
  intro W base args ds gs before hval hW hcnd _
  exact contract H enc W base args ds gs before hval hW
theorem said : Rows.IpTellsSaid :=
  OpenClaim.holds_of_wide 3 Try.f3 rfl rfl rfl rfl rfl rfl rfl ⟨rfl, rfl, rfl, rfl, rfl⟩ rfl rfl rfl rfl rfl (by kernel_rfl) Try.func3 (by kernel_rfl)
    (of_decide_eq_true (by kernel_rfl)) (by unfold Func.isWrapper; first | (rw [if_pos (by decide +kernel)]; kernel_rfl) | (rw [if_neg (by decide +kernel)]; exact ⟨rfl, rfl⟩))
    (fun os started H enc _ => lifted os started H enc)
#print axioms said
end Go.Proofs.Ythmejokjbkkfbaa.ipTells
