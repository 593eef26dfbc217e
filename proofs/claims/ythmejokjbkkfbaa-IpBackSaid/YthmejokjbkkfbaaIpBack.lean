/- The law IpBack: every call returns true, and its arguments read behind the call as before it. Condition: none but the row's own. -/
import Derived.Test.YthmejokjbkkfbaaFs4
namespace Go.Proofs.Ythmejokjbkkfbaa.ipBack
set_option linter.unusedVariables false
open Go.ChangeShapes Go.WideShapes Go.ChangeAt Go.RowKit
open Go.ChangeMaps (open_string shut_string)

set_option maxRecDepth 100000 in
set_option maxHeartbeats 4000000 in
theorem walk (w : World) (s : Int) (hs : 0 ≤ s ∧ s ≤ 4294967295) (d : Int) (hd : 0 ≤ d ∧ d ≤ 4294967295) (p : Int) (hp : 0 ≤ p ∧ p ≤ 255) (t : Int) (ht : 0 ≤ t ∧ t ≤ 255) (i : Int) (hi : 0 ≤ i ∧ i ≤ 65535) (al : Bool)
    (a1 : Option Addr) (n1 c1 : Nat) (xs : List Int) (hx : xs.length = n1) (hm1 : n1 ≤ 9223372036854775807) (hb1 : Bs w a1 xs) (hnil1 : a1 = none → n1 = 0 ∧ c1 = 0)
    (a2 : Option Addr) (n2 c2 : Nat) (ys : List Int) (hy : ys.length = n2) (hm2 : n2 ≤ 9223372036854775807) (hb2 : Bs w a2 ys) (hnil2 : a2 = none → n2 = 0 ∧ c2 = 0) (hnc2 : n2 ≤ c2) :
    Calls Try.prog 4 #[.agg #[.int .u32 s, .int .u32 d, .int .u8 p, .int .u8 t, .int .u16 i, .bool al], .slice a1 n1 c1, .slice a2 n2 c2] w fun e w' => e = .returned (.bool true) ∧ Below w.heap.size w w' := by
  obtain ⟨h, hh⟩ : ∃ h : Hdr, h = ⟨s, d, p, t, i, al⟩ := ⟨_, rfl⟩
  have hk : h.ok := by rw [hh]; exact ⟨hs, hd, hp, ht, hi⟩
  obtain ⟨rfl, rfl, rfl, rfl, rfl, rfl⟩ : s = h.src ∧ d = h.dst ∧ p = h.proto ∧ t = h.ttl ∧ i = h.id ∧ al = h.alert := by rw [hh]; exact ⟨rfl, rfl, rfl, rfl, rfl, rfl⟩
  have HK := Lib.hid hk
  have HX := Lib.hid hx
  have HB1 := Lib.hid hb1
  have HN1 := Lib.hid hnil1
  have BX0 := Lib.hid (HBox.new w h)
  have HG := hsz_ge h.alert
  by_cases q1 : 1400 < n1
  · clear hh hk hs hd hp ht hi hx hb1 hnil1 hy hb2 hnil2
    go_enter Try.func4, Try.ntmps4
    go_wp2_with (go_at_call 9; refine (iShown _).mono ?_; rintro e w1 ⟨rfl, hb⟩)
    go_ret
    exact ⟨rfl, step hb⟩
  by_cases q2 : 500 < n2
  · clear hh hk hs hd hp ht hi hx hb1 hnil1 hy hb2 hnil2
    go_enter Try.func4, Try.ntmps4
    go_wp2_with (go_at_call 9; refine (iShown _).mono ?_; rintro e w1 ⟨rfl, hb⟩)
    go_ret
    exact ⟨rfl, step hb⟩
  have hl : hsz h.alert + n1 ≤ 1500 := by omega
  have hl' : hsz h.alert + xs.length ≤ 1500 := by omega
  have HEL : Hid ((enc h xs).length = hsz h.alert + n1) := Lib.hid (by rw [enc_len, hx])
  have HEY : Hid (IsB (enc h xs ++ ys)) := Lib.hid (isB_append (isB_enc hk hb1.2 hl') hb2.2)
  have HY := Lib.hid hy
  have HB2 := Lib.hid hb2
  have HN2 := Lib.hid hnil2
  have hIy : IsB ys := hb2.2
  have DEC1 : Hid (∀ W a c, hsz h.alert + n1 + n2 ≤ c → Bs W a (enc h xs ++ ys) → Calls Try.prog 12 #[.slice a (hsz h.alert + n1 + n2) c] W fun e w' => ∃ v, e = .returned (.tuple #[.agg #[.int .u32 h.src, .int .u32 h.dst, .int .u8 h.proto, .int .u8 h.ttl, .int .u16 h.id, .bool h.alert], v, .int .i64 0]) ∧ Sl w' v xs ∧ Below W.heap.size W w') := Lib.hid (fun W a c hc hbs => by
    have := iDecode a (hsz h.alert + n1 + n2) c (enc h xs ++ ys) W (by rw [List.length_append, HEL.out, hy]) (by omega) hc hbs
    obtain ⟨g0, g1, g2⟩ := dec_app hk xs ys hl'
    rw [g0, g1, g2] at this
    exact this)
  by_cases qf : fault ys = 0
  case neg =>
    obtain ⟨F, hF⟩ : ∃ F, F = fault ys := ⟨_, rfl⟩
    have hF0 : (F != 0) = true := by rw [hF, bne_iff_ne]; exact qf
    have DEC2 : Hid (∀ W, Below w.heap.size w W → Calls Try.prog 12 #[.slice a2 n2 c2] W fun e w' => ∃ ak ck, e = .returned (.tuple #[.agg #[.int .u32 0, .int .u32 0, .int .u8 0, .int .u8 0, .int .u16 0, .bool false], .slice ak 0 ck, .int .i64 F]) ∧ Below W.heap.size W w') := Lib.hid (fun W hW => by
      have := iDecode a2 n2 c2 ys W HY.out (by omega) hnc2 (bs_below hb2 hW)
      obtain ⟨g1, g2⟩ := dec_err qf
      rw [← hF, g1, g2] at this
      refine this.mono ?_
      rintro e w' ⟨v, rfl, ⟨ak, ck, rfl, -, -⟩, hb⟩
      exact ⟨ak, ck, rfl, hb⟩)
    clear hh hk hs hd hp ht hi hx hb1 hnil1 hy hb2 hnil2 hIy qf hF hl'
    go_enter Try.func4, Try.ntmps4
    go_wp2_with (first
      | (go_at_call 9; refine (iShown _).mono ?_; rintro e w1 ⟨rfl, hb⟩; have W1 := Lib.hid (step hb); have BX1 := Lib.hid (BX0.out.keep hb); obtain ⟨k0, k1, k2, k3, k4, k5⟩ := BX1.out.cells; clear hb)
      | (go_at_call_of 10 a1; refine (iEncode h a1 n1 c1 xs _ HK.out HX.out (bs_below HB1.out W1.out) HN1.out hl).mono ?_; rintro e w2 ⟨v, rfl, ⟨g, c, rfl, -, hgc, hbx, -⟩, hb⟩; rw [HEL.out] at hgc ⊢; have W2 := Lib.hid (W1.out.trans (hb.mono W1.out.size)); have BX2 := Lib.hid (BX1.out.keep hb); have XX := Lib.hid hbx; clear hb hbx)
      | ((with_reducible refine wpList_app_bs rfl (.tmp 35) (.tmp 36) rfl w2.heap.size (some ⟨w2.heap.size, 0, none⟩) 0 0 [] rfl (Ow.empty w2 (Nat.le_refl _)) (some ⟨g, 0, none⟩) (hsz h.alert + n1) c (enc h xs) rfl HEL.out (bs_below XX.out ((Below.refl _ _).alloc (Nat.le_refl _) _)) (fun e => by cases e) (by omega) w2 (by simp) ((Below.refl _ _).alloc (Nat.le_refl _) _) ?_); intro a3 c3 w3 how3 hb3; rw [Nat.zero_add, List.nil_append] at how3; rw [Nat.zero_add]; have K3 := Lib.hid hb3; have W3 := Lib.hid (W2.out.trans (hb3.mono W2.out.size)); have BX3 := Lib.hid (BX2.out.keep hb3); clear hb3)
      | ((with_reducible refine wpList_app_bs rfl (.tmp 37) (.tmp 38) rfl w2.heap.size a3 (hsz h.alert + n1) c3 (enc h xs) rfl how3.out a2 n2 c2 ys rfl HY.out (bs_below HB2.out W3.out) HN2.out (by omega) w2 K3.out.size K3.out ?_); intro a4 c4 w4 how4 hb4; obtain ⟨g4, eg4, -, hc4⟩ := how4.out.some (by omega); have HG4 := Lib.hid eg4; have K4 := Lib.hid hb4; have W4 := Lib.hid (W2.out.trans (hb4.mono W2.out.size)); have BX4 := Lib.hid (BX2.out.keep hb4); clear hb4 eg4)
      | (go_at_call_of 12 a4; refine (DEC1.out _ a4 c4 hc4 (how4.out.bs HEY.out)).mono ?_; rintro e w5 ⟨v, rfl, ⟨ai, ci, rfl, hbi, -⟩, hb⟩; have W5 := Lib.hid (W4.out.trans (hb.mono W4.out.size)); have BX5 := Lib.hid (BX4.out.keep hb); obtain ⟨m0, m1, m2, m3, m4, m5⟩ := BX5.out.cells; have hlt := BX5.out.lt; have II := Lib.hid hbi; clear hb hbi)
      | (go_at_call_of 16 ai; refine (rSame ai a1 xs.length n1 ci c1 xs xs _ rfl HX.out (Nat.le_trans (Nat.le_of_eq HX.out) hm1) (bs_below II.out ((Below.refl _ _).alloc (Nat.le_refl _) _)) (bs_below HB1.out (W5.out.alloc W5.out.size _))).mono ?_; rw [same_refl]; rintro e w6 ⟨rfl, hb⟩; have W6 := Lib.hid (W5.out.trans ((step hb).mono W5.out.size)); clear hb)
      | (go_at_call_of 12 c2; refine (DEC2.out _ W6.out).mono ?_; rintro e w7 ⟨ak, ck, rfl, hb⟩; have W7 := Lib.hid (W6.out.trans (hb.mono W6.out.size)); clear hb))
    go_ret
    exact ⟨rfl, W7.out.alloc W7.out.size _⟩
  have gg := good_of qf
  obtain ⟨b, off, rfl⟩ := bs_at hb2 (by have := gg.len20; omega)
  obtain ⟨A, hA⟩ : ∃ A, A = all0 ys := ⟨_, rfl⟩
  have hAn : A ≤ n2 := by rw [hA, ← hy]; exact gg.lenA
  have HOK := Lib.hid (hdr_ok hIy gg.len20)
  have HEN : Hid (enc (hdr ys) (bod ys) = ys.take A) := Lib.hid (by rw [hA]; exact (enc_same hIy gg.len20 gg.first gg.lenH gg.form gg.lenA).2 gg.summed)
  have HLE : Hid (hsz (hdr ys).alert + (bod ys).length ≤ 1500) := Lib.hid (good_len hIy qf).1
  have HTA : Hid ((ys.take A).length = A) := Lib.hid (by rw [List.length_take, hy]; omega)
  have DEC2 : Hid (∀ W, Below w.heap.size w W → Calls Try.prog 12 #[.slice (some ⟨b, off, none⟩) n2 c2] W fun e w' => ∃ v, e = .returned (.tuple #[.agg #[.int .u32 (hdr ys).src, .int .u32 (hdr ys).dst, .int .u8 (hdr ys).proto, .int .u8 (hdr ys).ttl, .int .u16 (hdr ys).id, .bool (hdr ys).alert], v, .int .i64 0]) ∧ Sl w' v (bod ys) ∧ Below W.heap.size W w') := Lib.hid (fun W hW => by
    have := iDecode (some ⟨b, off, none⟩) n2 c2 ys W HY.out (by omega) hnc2 (bs_below hb2 hW)
    rw [qf, show decH ys = hdr ys from by unfold decH; rw [if_pos qf], show decB ys = bod ys from by unfold decB; rw [if_pos qf]] at this
    exact this)
  clear hh hk hs hd hp ht hi hx hb1 hnil1 hy hb2 hnil2 hIy qf hl' gg hA
  go_enter Try.func4, Try.ntmps4
  go_wp2_with (first
    | (go_at_call 9; refine (iShown _).mono ?_; rintro e w1 ⟨rfl, hb⟩; have W1 := Lib.hid (step hb); have BX1 := Lib.hid (BX0.out.keep hb); obtain ⟨k0, k1, k2, k3, k4, k5⟩ := BX1.out.cells; clear hb)
    | (go_at_call_of 10 a1; refine (iEncode h a1 n1 c1 xs _ HK.out HX.out (bs_below HB1.out W1.out) HN1.out hl).mono ?_; rintro e w2 ⟨v, rfl, ⟨g, c, rfl, -, hgc, hbx, -⟩, hb⟩; rw [HEL.out] at hgc ⊢; have W2 := Lib.hid (W1.out.trans (hb.mono W1.out.size)); have BX2 := Lib.hid (BX1.out.keep hb); have XX := Lib.hid hbx; clear hb hbx)
    | ((with_reducible refine wpList_app_bs rfl (.tmp 35) (.tmp 36) rfl w2.heap.size (some ⟨w2.heap.size, 0, none⟩) 0 0 [] rfl (Ow.empty w2 (Nat.le_refl _)) (some ⟨g, 0, none⟩) (hsz h.alert + n1) c (enc h xs) rfl HEL.out (bs_below XX.out ((Below.refl _ _).alloc (Nat.le_refl _) _)) (fun e => by cases e) (by omega) w2 (by simp) ((Below.refl _ _).alloc (Nat.le_refl _) _) ?_); intro a3 c3 w3 how3 hb3; rw [Nat.zero_add, List.nil_append] at how3; rw [Nat.zero_add]; have K3 := Lib.hid hb3; have W3 := Lib.hid (W2.out.trans (hb3.mono W2.out.size)); have BX3 := Lib.hid (BX2.out.keep hb3); clear hb3)
    | ((with_reducible refine wpList_app_bs rfl (.tmp 37) (.tmp 38) rfl w2.heap.size a3 (hsz h.alert + n1) c3 (enc h xs) rfl how3.out (some ⟨b, off, none⟩) n2 c2 ys rfl HY.out (bs_below HB2.out W3.out) HN2.out (by omega) w2 K3.out.size K3.out ?_); intro a4 c4 w4 how4 hb4; obtain ⟨g4, eg4, -, hc4⟩ := how4.out.some (by omega); have HG4 := Lib.hid eg4; have K4 := Lib.hid hb4; have W4 := Lib.hid (W2.out.trans (hb4.mono W2.out.size)); have BX4 := Lib.hid (BX2.out.keep hb4); clear hb4 eg4)
    | (go_at_call_of 12 a4; refine (DEC1.out _ a4 c4 hc4 (how4.out.bs HEY.out)).mono ?_; rintro e w5 ⟨v, rfl, ⟨ai, ci, rfl, hbi, -⟩, hb⟩; have W5 := Lib.hid (W4.out.trans (hb.mono W4.out.size)); have BX5 := Lib.hid (BX4.out.keep hb); obtain ⟨m0, m1, m2, m3, m4, m5⟩ := BX5.out.cells; have hlt := BX5.out.lt; have II := Lib.hid hbi; clear hb hbi)
    | (go_at_call_of 16 ai; refine (rSame ai a1 xs.length n1 ci c1 xs xs _ rfl HX.out (Nat.le_trans (Nat.le_of_eq HX.out) hm1) (bs_below II.out ((Below.refl _ _).alloc (Nat.le_refl _) _)) (bs_below HB1.out (W5.out.alloc W5.out.size _))).mono ?_; rw [same_refl]; rintro e w6 ⟨rfl, hb⟩; have W6 := Lib.hid (W5.out.trans ((step hb).mono W5.out.size)); clear hb)
    | (go_at_call_of 12 c2; refine (DEC2.out _ W6.out).mono ?_; rintro e w7 ⟨v, rfl, ⟨ak, ck, rfl, hbk, hnk⟩, hb⟩; have W7 := Lib.hid (W6.out.trans (hb.mono W6.out.size)); have KK := Lib.hid hbk; have NK := Lib.hid hnk; clear hb hbk hnk)
    | (go_at_call_of 10 ak; refine (iEncode (hdr ys) ak _ ck (bod ys) _ HOK.out rfl (bs_below KK.out ((Below.refl _ _).alloc (Nat.le_refl _) _)) NK.out HLE.out).mono ?_; rw [HEN.out]; rintro e w8 ⟨v, rfl, ⟨gy, cy, rfl, -, -, hby, -⟩, hb⟩; rw [HTA.out]; have W8 := Lib.hid (W7.out.trans ((step hb).mono W7.out.size)); have YY := Lib.hid hby; clear hb hby)
    | (go_at_call_of 16 gy; refine (rSame (some ⟨gy, 0, none⟩) (some ⟨b, off, none⟩) A A cy c2 (ys.take A) (ys.take A) _ HTA.out HTA.out (by omega) YY.out (bs_take (bs_below HB2.out W8.out) A)).mono ?_; rw [same_refl]; rintro e w9 ⟨rfl, hb⟩; have W9 := Lib.hid (W8.out.trans (hb.mono W8.out.size)); clear hb))
  go_ret
  exact ⟨rfl, W9.out⟩

theorem contract (H : Type) (enc : TypeId × Value → H) (W : World) (base : Nat) (args : Array Value) (ds gs : List (DataW H)) (before : List MemPlace)
    (hval : ∀ (j : Nat) t v, Try.f4.params[j]? = some t → args[j]? = some v → Value.okWide Try.prog W .any base t v)
    (hW : DataW.Whole enc Try.prog Try.f4.params.toList Rows.ipBackSpec.vars false W args.toList ds gs before) :
    Calls Try.prog 4 args W fun e W' => ∃ v, e = .returned v ∧ Rows.ipBackSpec.post enc Try.prog Try.f4 false true false false W args v W' := by
  have hW' := hW
  obtain ⟨p, q, hA0, hV, rfl, hfz, hnd⟩ := hW
  have hA : DataW.TrodAll enc Try.prog W 0 (fun _ => true) true Try.f4.params.toList args.toList ds p := hA0
  rw [Try.params4] at hA hval
  obtain ⟨v0, vs0, d0, ds0, p0, q0, hargs, rfl, rfl, h0, r0⟩ := trodAll_cons hA
  obtain ⟨v1, vs1, d1, ds1, p1, q1, rfl, rfl, rfl, h1, r1⟩ := trodAll_cons r0
  obtain ⟨v2, vs2, d2, ds2, p2, q2, rfl, rfl, rfl, h2, r2⟩ := trodAll_cons r1
  obtain ⟨rfl, rfl, rfl⟩ := trodAll_nil r2
  obtain rfl : args = #[v0, v1, v2] := by cases args; simp_all
  obtain ⟨rfl, rfl⟩ := trodVars_none hV
  have k0 := h0
  have lt0 : ∀ x ∈ p0, x.block < W.heap.size := by obtain ⟨m, hm⟩ := k0; exact DataW.trod_lt m _ _ _ hm
  have k1 := h1
  have lt1 : ∀ x ∈ p1, x.block < W.heap.size := by obtain ⟨m, hm⟩ := k1; exact DataW.trod_lt m _ _ _ hm
  have k2 := h2
  have lt2 : ∀ x ∈ p2, x.block < W.heap.size := by obtain ⟨m, hm⟩ := k2; exact DataW.trod_lt m _ _ _ hm
  obtain ⟨cs0, nf0, rfl, hlen0, hf0⟩ := agg_open Try.underlying26 (by kernel_rfl) (by kernel_rfl) (hval 0 26 v0 rfl rfl) h0
  match cs0, hlen0 with
  | [c0_0, c0_1, c0_2, c0_3, c0_4, c0_5], _ =>
  obtain ⟨_, _, e0_0, t0_0⟩ := hf0 0 _ rfl
  simp at e0_0
  subst e0_0
  obtain ⟨x0_0, q0_0, _, w0_0⟩ := DataW.trod_int Try.underlying23 t0_0
  simp at q0_0
  subst q0_0
  obtain ⟨_, _, e0_1, t0_1⟩ := hf0 1 _ rfl
  simp at e0_1
  subst e0_1
  obtain ⟨x0_1, q0_1, _, w0_1⟩ := DataW.trod_int Try.underlying23 t0_1
  simp at q0_1
  subst q0_1
  obtain ⟨_, _, e0_2, t0_2⟩ := hf0 2 _ rfl
  simp at e0_2
  subst e0_2
  obtain ⟨x0_2, q0_2, _, w0_2⟩ := DataW.trod_int Try.underlying5 t0_2
  simp at q0_2
  subst q0_2
  obtain ⟨_, _, e0_3, t0_3⟩ := hf0 3 _ rfl
  simp at e0_3
  subst e0_3
  obtain ⟨x0_3, q0_3, _, w0_3⟩ := DataW.trod_int Try.underlying5 t0_3
  simp at q0_3
  subst q0_3
  obtain ⟨_, _, e0_4, t0_4⟩ := hf0 4 _ rfl
  simp at e0_4
  subst e0_4
  obtain ⟨x0_4, q0_4, _, w0_4⟩ := DataW.trod_int Try.underlying24 t0_4
  simp at q0_4
  subst q0_4
  obtain ⟨_, _, e0_5, t0_5⟩ := hf0 5 _ rfl
  simp at e0_5
  subst e0_5
  obtain ⟨x0_5, q0_5, _⟩ := DataW.trod_bool Try.underlying4 t0_5
  simp at q0_5
  subst q0_5
  obtain ⟨a1, len1, cap1, rfl⟩ := okWide_slice Try.underlying27 (hval 1 27 v1 rfl rfl)
  obtain ⟨z1, w1⟩ : ∃ zs, IsRow .u8 W a1 len1 cap1 zs := by
    obtain ⟨fuel, hf⟩ := h1
    rcases open_ints Try.underlying27 Try.underlying5 (by kernel_rfl) hf with ⟨hcs, _⟩ | ⟨x, l, c, zs, hcs, _, hl, hm, hz, _, hcell, hwz⟩
    · simp [Value.cells] at hcs
      obtain ⟨rfl, rfl, rfl⟩ := hcs
      exact ⟨[], .inl ⟨rfl, rfl, rfl, rfl⟩⟩
    · simp [Value.cells] at hcs
      obtain ⟨rfl, rfl, rfl⟩ := hcs
      exact ⟨zs, .inr ⟨_, rfl, hl, hm, by simpa using hz, hcell, hwz⟩⟩
  obtain ⟨b1, l1, m1⟩ := bs_of_row w1
  obtain ⟨a2, len2, cap2, rfl⟩ := okWide_slice Try.underlying27 (hval 2 27 v2 rfl rfl)
  obtain ⟨z2, w2⟩ : ∃ zs, IsRow .u8 W a2 len2 cap2 zs := by
    obtain ⟨fuel, hf⟩ := h2
    rcases open_ints Try.underlying27 Try.underlying5 (by kernel_rfl) hf with ⟨hcs, _⟩ | ⟨x, l, c, zs, hcs, _, hl, hm, hz, _, hcell, hwz⟩
    · simp [Value.cells] at hcs
      obtain ⟨rfl, rfl, rfl⟩ := hcs
      exact ⟨[], .inl ⟨rfl, rfl, rfl, rfl⟩⟩
    · simp [Value.cells] at hcs
      obtain ⟨rfl, rfl, rfl⟩ := hcs
      exact ⟨zs, .inr ⟨_, rfl, hl, hm, by simpa using hz, hcell, hwz⟩⟩
  obtain ⟨b2, l2, m2⟩ := bs_of_row w2
  clear hA0
  refine (walk W x0_0 (bounds_u32 w0_0) x0_1 (bounds_u32 w0_1) x0_2 (bounds_u8 w0_2) x0_3 (bounds_u8 w0_3) x0_4 (bounds_u16 w0_4) x0_5 a1 len1 cap1 (z1.take len1) l1 m1 b1 (nil_of_row w1) a2 len2 cap2 (z2.take len2) l2 m2 b2 (nil_of_row w2) (len_cap w2)).mono fun e W' ⟨he, bel⟩ => ?_
  subst he
  exact ⟨_, rfl, _, _, _, [], _, [], hW', trodAll_mk1 (shut_bool Try.underlying4 _), (trodAll_cons_mk (Below.trod laidOut (by kernel_rfl) (of_decide_eq_true (by kernel_rfl)) k0 bel lt0) (trodAll_cons_mk (Below.trod laidOut (by kernel_rfl) (of_decide_eq_true (by kernel_rfl)) k1 bel lt1) (trodAll_cons_mk (Below.trod laidOut (by kernel_rfl) (of_decide_eq_true (by kernel_rfl)) k2 bel lt2) trodAll_mk0))), rfl, bel.frame _, fun h => by cases h⟩

set_option maxRecDepth 100000 in
theorem lifted (os : Os) (started : os.Started) (H : Type) (enc : TypeId × Value → H) :
    ReturnsInHanded {} Try.checked os 4 .any (Rows.ipBackSpec.pre6 enc Try.prog Try.f4 Rows.ipBackRow.domain false) (Rows.ipBackSpec.post enc Try.prog Try.f4 false true false false) := by
  refine returnsInHanded_of_change (C := Try.checked) own started (by kernel_rfl) Try.func4
    (ChangeSpec.witness6 (enc := enc) (C := Try.checked) false ⟨#[], #[(.agg #[(.int .u32 0), (.int .u32 0), (.int .u8 0), (.int .u8 0), (.int .u16 0), (.bool false)]), (.slice none 0 0), (.slice none 0 0)], []⟩ 8 (by kernel_rfl) (by kernel_rfl) (by kernel_rfl) (by kernel_rfl)) ?_
  intro W base args ds gs before hval hW hcnd _
  exact contract H enc W base args ds gs before hval hW
theorem said : Rows.IpBackSaid :=
  OpenClaim.holds_of_wide 4 Try.f4 rfl rfl rfl rfl rfl rfl rfl ⟨rfl, rfl, rfl, rfl, rfl⟩ rfl rfl rfl rfl rfl (by kernel_rfl) Try.func4 (by kernel_rfl)
    (of_decide_eq_true (by kernel_rfl)) (by unfold Func.isWrapper; first | (rw [if_pos (by decide +kernel)]; kernel_rfl) | (rw [if_neg (by decide +kernel)]; exact ⟨rfl, rfl⟩))
    (fun os started H enc _ => lifted os started H enc)
#print axioms said
end Go.Proofs.Ythmejokjbkkfbaa.ipBack
