/- The law IpPasses: every call returns true, and its arguments read behind the call as before it. Condition: none but the row's own. -/
import Derived.Test.YthmejokjbkkfbaaFs4
import Derived.Test.YthmejokjbkkfbaaIl
namespace Go.Proofs.Ythmejokjbkkfbaa.ipPasses
set_option linter.unusedVariables false
open Go.ChangeShapes Go.WideShapes Go.ChangeAt Go.RowKit
open Go.ChangeMaps (open_string shut_string)

set_option maxRecDepth 100000 in
set_option maxHeartbeats 4000000 in
theorem walk (w : World) (s : Int) (hs : 0 ≤ s ∧ s ≤ 4294967295) (d : Int) (hd : 0 ≤ d ∧ d ≤ 4294967295) (p : Int) (hp : 0 ≤ p ∧ p ≤ 255) (t : Int) (ht : 0 ≤ t ∧ t ≤ 255) (i : Int) (hi : 0 ≤ i ∧ i ≤ 65535) (al : Bool)
    (a1 : Option Addr) (n1 c1 : Nat) (xs : List Int) (hx : xs.length = n1) (hm1 : n1 ≤ 9223372036854775807) (hb1 : Bs w a1 xs) (hnil1 : a1 = none → n1 = 0 ∧ c1 = 0) :
    Calls Try.prog 5 #[.agg #[.int .u32 s, .int .u32 d, .int .u8 p, .int .u8 t, .int .u16 i, .bool al], .slice a1 n1 c1] w fun e w' => e = .returned (.bool true) ∧ Below w.heap.size w w' := by
  obtain ⟨h, hh⟩ : ∃ h : Hdr, h = ⟨s, d, p, t, i, al⟩ := ⟨_, rfl⟩
  have hk : h.ok := by rw [hh]; exact ⟨hs, hd, hp, ht, hi⟩
  obtain ⟨rfl, rfl, rfl, rfl, rfl, rfl⟩ : s = h.src ∧ d = h.dst ∧ p = h.proto ∧ t = h.ttl ∧ i = h.id ∧ al = h.alert := by rw [hh]; exact ⟨rfl, rfl, rfl, rfl, rfl, rfl⟩
  have HK := Lib.hid hk
  have HX := Lib.hid hx
  have HB1 := Lib.hid hb1
  have HN1 := Lib.hid hnil1
  have BX0 := Lib.hid (HBox.new w h)
  have HG := hsz_ge h.alert
  by_cases q1 : 1400 < n1
  · clear hh hk hs hd hp ht hi hx hb1 hnil1
    go_enter Try.func5, Try.ntmps5
    go_wp2_with (go_at_call 9; refine (iShown _).mono ?_; rintro e w1 ⟨rfl, hb⟩)
    go_ret
    exact ⟨rfl, step hb⟩
  have hl : hsz h.alert + n1 ≤ 1500 := by omega
  have hl' : hsz h.alert + xs.length ≤ 1500 := by omega
  obtain ⟨F0, F1, F2⟩ := enc_facts hk xs hl'
  have HF0 := Lib.hid F0
  have HF1 := Lib.hid F1
  have HF2 := Lib.hid F2
  have HEL : Hid ((enc h xs).length = hsz h.alert + n1) := Lib.hid (by rw [enc_len, hx])
  by_cases q2 : h.ttl < 2
  · have HPE : Hid (passE (enc h xs) = 6) := Lib.hid (by unfold passE; rw [if_pos F0, F1, if_pos (by omega)])
    have HPB : Hid (passB (enc h xs) = []) := Lib.hid (by unfold passB; rw [if_pos F0, F1, if_pos (by omega)])
    clear hh hk hs hd hp ht hi hx hb1 hnil1 F0 F1 F2
    go_enter Try.func5, Try.ntmps5
    go_wp2_with (first
      | (go_at_call 9; refine (iShown _).mono ?_; rintro e w1 ⟨rfl, hb⟩; have W1 := Lib.hid (step hb); have BX1 := Lib.hid (BX0.out.keep hb); obtain ⟨k0, k1, k2, k3, k4, k5⟩ := BX1.out.cells; clear hb)
      | (go_at_call 10; refine (iEncode h a1 n1 c1 xs _ HK.out HX.out (bs_below HB1.out W1.out) HN1.out hl).mono ?_; rintro e w2 ⟨v, rfl, ⟨g, c, rfl, -, hgc, hbx, -⟩, hb⟩; rw [HEL.out] at hgc ⊢; have W2 := Lib.hid (W1.out.trans (hb.mono W1.out.size)); have BX2 := Lib.hid (BX1.out.keep hb); have XX := Lib.hid hbx; clear hb hbx)
      | (go_at_call 14; refine (iPassed _ _ c (enc h xs) _ HEL.out (by omega) hgc XX.out).mono ?_; rw [HPE.out, HPB.out]; rintro e w3 ⟨v, rfl, ⟨ap, cp, rfl, -, -⟩, hb⟩; have W3 := Lib.hid (W2.out.trans (hb.mono W2.out.size)); have BX3 := Lib.hid (BX2.out.keep hb); obtain ⟨l0, l1, l2, l3, l4, l5⟩ := BX3.out.cells; clear hb))
    go_ret
    exact ⟨rfl, W3.out⟩
  · have HLK := Lib.hid (less_ok hk (by omega))
    obtain ⟨G0, G1, G2⟩ := dec_enc (less_ok hk (by omega)) xs hl'
    have HG0 := Lib.hid G0
    have HG2 := Lib.hid G2
    have HLL : Hid ((enc (less h) xs).length = hsz h.alert + n1) := Lib.hid (by rw [enc_len, hx]; rfl)
    have HLT : Hid (1 < (hdr (enc h xs)).ttl) := Lib.hid (by rw [F1]; omega)
    have HPX : Hid (enc (less (hdr (enc h xs))) (bod (enc h xs)) = enc (less h) xs) := Lib.hid (by rw [F1, F2])
    have DEC : Hid (∀ W g c, hsz h.alert + n1 ≤ c → Bs W (some ⟨g, 0, none⟩) (enc (less h) xs) → Calls Try.prog 12 #[.slice (some ⟨g, 0, none⟩) (hsz h.alert + n1) c] W fun e w' => ∃ v, e = .returned (.tuple #[.agg #[.int .u32 h.src, .int .u32 h.dst, .int .u8 h.proto, .int .u8 (h.ttl - 1), .int .u16 h.id, .bool h.alert], v, .int .i64 0]) ∧ SlG W.heap.size w' v xs ∧ Below W.heap.size W w') := Lib.hid (fun W g c hc hbs => by
      have := iDecode_okG g 0 (hsz h.alert + n1) c (enc (less h) xs) W HLL.out (by omega) hc hbs G0
      obtain ⟨_, g1, g2⟩ := enc_facts (less_ok hk (by omega)) xs hl'
      rw [g1, g2] at this
      exact this)
    have tb := ht
    clear hh hk hs hd hp ht hi hx hb1 hnil1 F0 F1 F2 G0 G1 G2
    go_enter Try.func5, Try.ntmps5
    go_wp2_with (first
      | (go_at_call 9; refine (iShown _).mono ?_; rintro e w1 ⟨rfl, hb⟩; have W1 := Lib.hid (step hb); have BX1 := Lib.hid (BX0.out.keep hb); obtain ⟨k0, k1, k2, k3, k4, k5⟩ := BX1.out.cells; clear hb)
      | (go_at_call 10; refine (iEncode h a1 n1 c1 xs _ HK.out HX.out (bs_below HB1.out W1.out) HN1.out hl).mono ?_; rintro e w2 ⟨v, rfl, ⟨g, c, rfl, -, hgc, hbx, -⟩, hb⟩; rw [HEL.out] at hgc ⊢; have W2 := Lib.hid (W1.out.trans (hb.mono W1.out.size)); have BX2 := Lib.hid (BX1.out.keep hb); have XX := Lib.hid hbx; clear hb hbx)
      | (go_at_call 14; refine (iPassed_ok _ _ c (enc h xs) _ HEL.out (by omega) hgc XX.out HF0.out (Int.not_le.2 HLT.out)).mono ?_; rw [HPX.out]; rintro e w3 ⟨v, rfl, ⟨gp, cp, rfl, -, hpc, hbp, -⟩, hb⟩; rw [HLL.out] at hpc ⊢; have W3 := Lib.hid (W2.out.trans (hb.mono W2.out.size)); have BX3 := Lib.hid (BX2.out.keep hb); obtain ⟨l0, l1, l2, l3, l4, l5⟩ := BX3.out.cells; have PP := Lib.hid hbp; clear hb hbp)
      | (go_at_call 12; refine (DEC.out _ gp cp hpc PP.out).mono ?_; rintro e w4 ⟨v, rfl, hsg, hb⟩; have hsb := hsg.slB (C := w.heap.size) (W3.out.size); obtain ⟨ai, ci, rfl, hbi, hni, hBi⟩ := hsb; have BSI : Hid (∀ v o, Bs ((w4.setCell ⟨w.heap.size, 3, none⟩ v).alloc o) ai xs) := Lib.hid (fun v o => by obtain ⟨a', c', e', hb', _⟩ := SlB.keep (B := w.heap.size) (w' := w4.setCell ⟨w.heap.size, 3, none⟩ v) ⟨ai, ci, rfl, hbi, hni, hBi⟩ (fun g hg _ => heap_setCell_other _ _ _ _ hg); cases e'; exact bs_below hb' ((Below.refl _ _).alloc (Nat.le_refl _) _)); clear hni hBi hsg; have W4 := Lib.hid (W3.out.trans (hb.mono W3.out.size)); have BX4 := Lib.hid (BX3.out.keep hb); obtain ⟨m0, m1, m2, m3, m4, m5⟩ := BX4.out.cells; have fz := BX4.out.frozen; have hlt := BX4.out.lt; have W5 : Hid (∀ v o, Below w.heap.size w ((w4.setCell ⟨w.heap.size, 3, none⟩ v).alloc o)) := Lib.hid (fun v o => (W4.out.setCell (p := ⟨w.heap.size, 3, none⟩) (Nat.le_refl _) _).alloc (W4.out.setCell (p := ⟨w.heap.size, 3, none⟩) (Nat.le_refl _) _).size _); clear hb hbi)
      | (go_at_call 16; refine (rSame ai a1 xs.length n1 ci c1 xs xs _ rfl HX.out (Nat.le_trans (Nat.le_of_eq HX.out) hm1) (BSI.out _ _) (bs_below HB1.out (W5.out _ _))).mono ?_; rw [same_refl]; rintro e w6 ⟨rfl, hb⟩; have W6 := Lib.hid ((W5.out _ _).trans (hb.mono (W5.out _ _).size)); clear hb))
    go_ret
    exact ⟨rfl, W6.out⟩

theorem contract (H : Type) (enc : TypeId × Value → H) (W : World) (base : Nat) (args : Array Value) (ds gs : List (DataW H)) (before : List MemPlace)
    (hval : ∀ (j : Nat) t v, Try.f5.params[j]? = some t → args[j]? = some v → Value.okWide Try.prog W .any base t v)
    (hW : DataW.Whole enc Try.prog Try.f5.params.toList Rows.ipPassesSpec.vars false W args.toList ds gs before) :
    Calls Try.prog 5 args W fun e W' => ∃ v, e = .returned v ∧ Rows.ipPassesSpec.post enc Try.prog Try.f5 false true false false W args v W' := by
  have hW' := hW
  obtain ⟨p, q, hA0, hV, rfl, hfz, hnd⟩ := hW
  have hA : DataW.TrodAll enc Try.prog W 0 (fun _ => true) true Try.f5.params.toList args.toList ds p := hA0
  rw [Try.params5] at hA hval
  obtain ⟨v0, vs0, d0, ds0, p0, q0, hargs, rfl, rfl, h0, r0⟩ := trodAll_cons hA
  obtain ⟨v1, vs1, d1, ds1, p1, q1, rfl, rfl, rfl, h1, r1⟩ := trodAll_cons r0
  obtain ⟨rfl, rfl, rfl⟩ := trodAll_nil r1
  obtain rfl : args = #[v0, v1] := by cases args; simp_all
  obtain ⟨rfl, rfl⟩ := trodVars_none hV
  have k0 := h0
  have lt0 : ∀ x ∈ p0, x.block < W.heap.size := by obtain ⟨m, hm⟩ := k0; exact DataW.trod_lt m _ _ _ hm
  have k1 := h1
  have lt1 : ∀ x ∈ p1, x.block < W.heap.size := by obtain ⟨m, hm⟩ := k1; exact DataW.trod_lt m _ _ _ hm
  obtain ⟨cs0, nf0, rfl, hlen0, hf0⟩ := agg_open Try.underlying26 (by kernel_rfl) (by kernel_rfl) (hval 0 26 v0 rfl rfl) h0
  match cs0, hlen0 with
  | [c0_0, c0_1, c0_2, c0_3, c0_4, c0_5], _ =>
  obtain ⟨_, _, e0_0, t0_0⟩ := hf0 0 _ rfl
  simp at e0_0
  subst e0_0
  obtain ⟨x0_0, q0_0, _, w0_0⟩ := DataW.trod_int Try.underlying23 t0_0
  simp at q0_0
  subst q0_0
  obtain ⟨_, _, e0_1, t0_1⟩ := hf0 1 _ rfl
  simp at e0_1
  subst e0_1
  obtain ⟨x0_1, q0_1, _, w0_1⟩ := DataW.trod_int Try.underlying23 t0_1
  simp at q0_1
  subst q0_1
  obtain ⟨_, _, e0_2, t0_2⟩ := hf0 2 _ rfl
  simp at e0_2
  subst e0_2
  obtain ⟨x0_2, q0_2, _, w0_2⟩ := DataW.trod_int Try.underlying5 t0_2
  simp at q0_2
  subst q0_2
  obtain ⟨_, _, e0_3, t0_3⟩ := hf0 3 _ rfl
  simp at e0_3
  subst e0_3
  obtain ⟨x0_3, q0_3, _, w0_3⟩ := DataW.trod_int Try.underlying5 t0_3
  simp at q0_3
  subst q0_3
  obtain ⟨_, _, e0_4, t0_4⟩ := hf0 4 _ rfl
  simp at e0_4
  subst e0_4
  obtain ⟨x0_4, q0_4, _, w0_4⟩ := DataW.trod_int Try.underlying24 t0_4
  simp at q0_4
  subst q0_4
  obtain ⟨_, _, e0_5, t0_5⟩ := hf0 5 _ rfl
  simp at e0_5
  subst e0_5
  obtain ⟨x0_5, q0_5, _⟩ := DataW.trod_bool Try.underlying4 t0_5
  simp at q0_5
  subst q0_5
  obtain ⟨a1, len1, cap1, rfl⟩ := okWide_slice Try.underlying27 (hval 1 27 v1 rfl rfl)
  obtain ⟨z1, w1⟩ : ∃ zs, IsRow .u8 W a1 len1 cap1 zs := by
    obtain ⟨fuel, hf⟩ := h1
    rcases open_ints Try.underlying27 Try.underlying5 (by kernel_rfl) hf with ⟨hcs, _⟩ | ⟨x, l, c, zs, hcs, _, hl, hm, hz, _, hcell, hwz⟩
    · simp [Value.cells] at hcs
      obtain ⟨rfl, rfl, rfl⟩ := hcs
      exact ⟨[], .inl ⟨rfl, rfl, rfl, rfl⟩⟩
    · simp [Value.cells] at hcs
      obtain ⟨rfl, rfl, rfl⟩ := hcs
      exact ⟨zs, .inr ⟨_, rfl, hl, hm, by simpa using hz, hcell, hwz⟩⟩
  obtain ⟨b1, l1, m1⟩ := bs_of_row w1
  clear hA0
  refine (walk W x0_0 (bounds_u32 w0_0) x0_1 (bounds_u32 w0_1) x0_2 (bounds_u8 w0_2) x0_3 (bounds_u8 w0_3) x0_4 (bounds_u16 w0_4) x0_5 a1 len1 cap1 (z1.take len1) l1 m1 b1 (nil_of_row w1)).mono fun e W' ⟨he, bel⟩ => ?_
  subst he
  exact ⟨_, rfl, _, _, _, [], _, [], hW', trodAll_mk1 (shut_bool Try.underlying4 _), (trodAll_cons_mk (Below.trod laidOut (by kernel_rfl) (of_decide_eq_true (by kernel_rfl)) k0 bel lt0) (trodAll_cons_mk (Below.trod laidOut (by kernel_rfl) (of_decide_eq_true (by kernel_rfl)) k1 bel lt1) trodAll_mk0)), rfl, bel.frame _, fun h => by cases h⟩

set_option maxRecDepth 100000 in
theorem lifted (os : Os) (started : os.Started) (H : Type) (enc : TypeId × Value → H) :
    ReturnsInHanded {} Try.checked os 5 .any (Rows.ipPassesSpec.pre6 enc Try.prog Try.f5 Rows.ipPassesRow.domain false) (Rows.ipPassesSpec.post enc Try.prog Try.f5 false true false false) := by
  refine returnsInHanded_of_change (C := Try.checked) own started (by kernel_rfl) Try.func5
    (ChangeSpec.witness6 (enc := enc) (C := Try.checked) false ⟨#[], #[(.agg #[(.int .u32 0), (.int .u32 0), (.int .u8 0), (.int .u8 0), (.int .u16 0), (.bool false)]), (.slice none 0 0)], []⟩ 8 (by kernel_rfl) (by kernel_rfl) (by kernel_rfl) (by kernel_rfl)) ?_
  intro W base args ds gs before hval hW hcnd _
  exact contract H enc W base args ds gs before hval hW
theorem said : Rows.IpPassesSaid :=
  OpenClaim.holds_of_wide 5 Try.f5 rfl rfl rfl rfl rfl rfl rfl ⟨rfl, rfl, rfl, rfl, rfl⟩ rfl rfl rfl rfl rfl (by kernel_rfl) Try.func5 (by kernel_rfl)
    (of_decide_eq_true (by kernel_rfl)) (by unfold Func.isWrapper; first | (rw [if_pos (by decide +kernel)]; kernel_rfl) | (rw [if_neg (by decide +kernel)]; exact ⟨rfl, rfl⟩))
    (fun os started H enc _ => lifted os started H enc)
#print axioms said
end Go.Proofs.Ythmejokjbkkfbaa.ipPasses
