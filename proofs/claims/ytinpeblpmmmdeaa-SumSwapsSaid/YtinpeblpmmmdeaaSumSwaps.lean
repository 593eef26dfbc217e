/- The law SumSwaps: every call returns true, and its arguments read behind the call as before it. Condition: none but the row's own. -/
import Derived.Test.YtinpeblpmmmdeaaFs
namespace Go.Proofs.Ytinpeblpmmmdeaa.sumSwaps
set_option linter.unusedVariables false
open Go.ChangeShapes Go.WideShapes Go.ChangeAt Go.RowKit
open Go.ChangeMaps (open_string shut_string)

/-- Two words that change places. -/
def swp (Z : List Int) (k : Nat) : List Int := (((Z.set k (Z.getD (k + 2) 0)).set (k + 1) (Z.getD (k + 3) 0)).set (k + 2) (Z.getD k 0)).set (k + 3) (Z.getD (k + 1) 0)
theorem swp_len (Z : List Int) (k : Nat) : (swp Z k).length = Z.length := by simp [swp]
theorem isB_swp {Z : List Int} (h : IsB Z) (k : Nat) : IsB (swp Z k) :=
  isB_set (isB_set (isB_set (isB_set h _ (getD_bd h _).1 (getD_bd h _).2) _ (getD_bd h _).1 (getD_bd h _).2) _ (getD_bd h _).1 (getD_bd h _).2) _ (getD_bd h _).1 (getD_bd h _).2
theorem tot_swp {Z : List Int} {k : Nat} (hk : k + 3 < Z.length) (he : k % 2 = 0) : tot (swp Z k) = tot Z := by
  unfold swp
  rw [tot_set _ _ _ (by simpa using hk), tot_set _ _ _ (by simp; omega), tot_set _ _ _ (by simp; omega), tot_set _ _ _ (by omega)]
  have w0 : wt k = 256 := by unfold wt; rw [if_pos he]
  have w1 : wt (k + 1) = 1 := by unfold wt; rw [if_neg (by omega)]
  have w2 : wt (k + 2) = 256 := by unfold wt; rw [if_pos (by omega)]
  have w3 : wt (k + 3) = 1 := by unfold wt; rw [if_neg (by omega)]
  rw [w0, w1, w2, w3, getD_set_ne _ (by omega), getD_set_ne _ (by omega), getD_set_ne _ (by omega), getD_set_ne _ (by omega), getD_set_ne _ (by omega), getD_set_ne _ (by omega)]
  omega
theorem ofs_swp {Z : List Int} {k : Nat} (hk : k + 3 < Z.length) (he : k % 2 = 0) : ofs (swp Z k) = ofs Z := by unfold ofs; rw [tot_swp hk he]
theorem ofs_zeros (Z : List Int) : ofs (Z ++ [0, 0]) = ofs Z := by unfold ofs; rw [tot_zeros]
theorem ofs_join {xs ys : List Int} (hx : IsB xs) (hy : IsB ys) (h : xs.length % 2 = 0) : jn (65535 - ofs xs) (65535 - ofs ys) = 65535 - ofs (xs ++ ys) := by
  unfold ofs
  rw [tot_append xs ys h, ← jn_nrm (tot_pos hx) (tot_pos hy)]
  rw [show ∀ t : Int, 65535 - (65535 - t) = t from fun t => by omega, show ∀ t : Int, 65535 - (65535 - t) = t from fun t => by omega, show ∀ t : Int, 65535 - (65535 - t) = t from fun t => by omega]

theorem new2 (W : World) : Bs (W.alloc (.cells #[.int .u8 0, .int .u8 0] 5)) (some ⟨W.heap.size, 0, none⟩) [0, 0] :=
  (Ob.of_heap (xs := [0, 0]) (World.alloc_heap_new W (.cells #[.int .u8 0, .int .u8 0] 5))).bs (isB_cons.2 ⟨by omega, isB_cons.2 ⟨by omega, isB_nil⟩⟩)
set_option maxHeartbeats 8000000 in
theorem walk (w : World) (a : Option Addr) (n cap : Nat) (xs : List Int) (hx : xs.length = n) (hm : n ≤ 9223372036854775807) (hb : Bs w a xs) (hnil : a = none → n = 0 ∧ cap = 0) (hr : n ≤ 140737488351232)
    (a2 : Option Addr) (m cap2 : Nat) (ys : List Int) (hy : ys.length = m) (hm2 : m ≤ 9223372036854775807) (hb2 : Bs w a2 ys) (hnil2 : a2 = none → m = 0 ∧ cap2 = 0) (hr2 : m ≤ 140737488351232)
    (at' : Int) (hat : -9223372036854775808 ≤ at' ∧ at' ≤ 9223372036854775807) :
    Calls Try.prog 6 #[.slice a n cap, .slice a2 m cap2, .int .i64 at'] w fun e w' => e = .returned (.bool true) ∧ Below w.heap.size w w' := by
  have HX := Lib.hid hx
  have HY := Lib.hid hy
  have HB := Lib.hid hb
  have HB2 := Lib.hid hb2
  have HN := Lib.hid hnil
  have HN2 := Lib.hid hnil2
  clear hx hb hnil hy hb2 hnil2
  go_enter Try.func6, Try.ntmps6
  go_wp2_with fail
  refine (sShown _).mono ?_
  rintro e w1 ⟨rfl, hb1⟩
  have K1 := Lib.hid hb1
  clear hb1
  by_cases h1 : 1000 < n + m
  · have h1' : (1000 : Int) < (n : Int) + (m : Int) := by omega
    clear h1
    go_wp2_with fail
    go_ret
    exact ⟨rfl, K1.out⟩
  have h1' : (n : Int) + (m : Int) ≤ 1000 := by omega
  by_cases h2 : n % 2 = 1
  · have e2 : ((n : Int) % 2 != 0) = true := by rw [bne_iff_ne]; omega
    clear h2
    go_wp2_with fail
    go_ret
    exact ⟨rfl, K1.out⟩
  have e2 : ((n : Int) % 2 != 0) = false := by rw [bne_eq_false_iff_eq]; omega
  obtain ⟨Z, hZ⟩ : ∃ Z, Z = xs ++ ys := ⟨_, rfl⟩
  obtain ⟨N, hN⟩ : ∃ N, N = n + m := ⟨_, rfl⟩
  have IX : Hid (IsB xs) := Lib.hid HB.out.2
  have IY : Hid (IsB ys) := Lib.hid HB2.out.2
  have IZ : Hid (IsB Z) := Lib.hid (by rw [hZ]; exact isB_append IX.out IY.out)
  have HJ : Hid (jn (65535 - ofs xs) (65535 - ofs ys) = 65535 - ofs Z) := Lib.hid (by rw [hZ]; exact ofs_join IX.out IY.out (by rw [HX.out]; omega))
  have HZ := Lib.hid hZ
  have HNN := Lib.hid hN
  have hN1 : N ≤ 1000 := by omega
  clear hZ hN h2
  have BA := Lib.hid (bs_below HB.out (K1.out.alloc K1.out.size (.cells #[] 5)))
  have Z1 := Lib.hid K1.out.size
  go_wp2_with (first
    | ((with_reducible refine wpList_app_bs rfl (.tmp 26) (.tmp 27) rfl w.heap.size (some ⟨w1.heap.size, 0, none⟩) 0 0 [] rfl (Ow.empty w1 K1.out.size) a n cap xs rfl HX.out BA.out HN.out (by omega) w (by simp; have := Z1.out; omega) (K1.out.alloc K1.out.size _) ?_); intro a3 c3 w3 how3 hb3; rw [Nat.zero_add, List.nil_append] at how3; rw [Nat.zero_add]; have K3 := Lib.hid hb3; have BB := Lib.hid (bs_below HB2.out K3.out); clear hb3)
    | ((with_reducible refine wpList_app_bs rfl (.tmp 28) (.tmp 29) rfl w.heap.size a3 n c3 xs rfl how3.out a2 m cap2 ys rfl HY.out BB.out HN2.out (by omega) w K3.out.size K3.out ?_); intro a4 c4 w4 how4 hb4; rw [← HZ.out, ← HNN.out] at how4; rw [← HNN.out]; have K4 := Lib.hid hb4; have Z4 := Lib.hid hb4.size; have BW := Lib.hid ((how4.out.alloc (.cells #[] 5)).bs IZ.out); clear hb4)
    | ((with_reducible refine wpList_app_bs rfl (.tmp 31) (.tmp 32) rfl w4.heap.size (some ⟨w4.heap.size, 0, none⟩) 0 0 [] rfl (Ow.empty w4 (Nat.le_refl _)) a4 N c4 Z rfl how4.out.len BW.out how4.out.nil (by omega) w4 (by simp) ((Below.refl _ _).alloc (Nat.le_refl _) _) ?_); intro a5 c5 w5 how5 hb5; rw [Nat.zero_add, List.nil_append] at how5; rw [Nat.zero_add]; have K5 := Lib.hid hb5; have Z5 := Lib.hid hb5.size; have B00 := Lib.hid (new2 w5); clear hb5)
    | ((with_reducible refine wpList_app_bs rfl (.tmp 33) (.tmp 34) rfl w4.heap.size a5 N c5 Z rfl (how5.out.alloc _) (some ⟨w5.heap.size, 0, none⟩) 2 2 [0, 0] rfl rfl B00.out (fun h => by cases h) (by omega) w4 (by simp; have := Z5.out; omega) (K5.out.alloc K5.out.size _) ?_); intro a6 c6 w6 how6 hb6; have K6 := Lib.hid hb6; have ow4 := Lib.hid (how4.out.below hb6 (Nat.le_refl _)); have K46 := Lib.hid (K4.out.trans (hb6.mono K4.out.size)); clear hb6))
  have IZZ : Hid (IsB (Z ++ [0, 0])) := Lib.hid (isB_append IZ.out (isB_cons.2 ⟨by omega, isB_cons.2 ⟨by omega, isB_nil⟩⟩))
  have HS := Lib.hid (ofs_bd IZ.out)
  have b1 := ofs_bd IX.out
  have b2 := ofs_bd IY.out
  have b3 := ofs_bd IZ.out
  refine (sOf a4 N c4 Z w6 ow4.out.len (by omega) (ow4.out.bs IZ.out)).mono ?_
  rintro e w7 ⟨rfl, hb7⟩
  have OW7 := Lib.hid (ow4.out.below hb7 (Nat.le_refl _))
  have OX7 := Lib.hid (how6.out.below hb7 (Nat.le_refl _))
  have K7 := Lib.hid (K46.out.trans (hb7.mono K46.out.size))
  clear hb7
  go_wp2_with fail
  refine (sOf a6 (N + 2) c6 (Z ++ [0, 0]) w7 OX7.out.len (by omega) (OX7.out.bs IZZ.out)).mono ?_
  rintro e w8 ⟨rfl, hb8⟩
  have OW8 := Lib.hid (OW7.out.below hb8 (Nat.le_refl _))
  have K8 := Lib.hid (K7.out.trans (hb8.mono K7.out.size))
  clear hb8
  rw [ofs_zeros]
  have E1 := Lib.hid (show (ofs Z != ofs Z) = false by simp)
  go_wp2_with fail
  refine (sOf a n cap xs w8 HX.out (by omega) (bs_below HB.out K8.out)).mono ?_
  rintro e w9 ⟨rfl, hb9⟩
  have OW9 := Lib.hid (OW8.out.below hb9 (Nat.le_refl _))
  have K9 := Lib.hid (K8.out.trans (hb9.mono K8.out.size))
  clear hb9
  go_wp2_with fail
  refine (sOf a2 m cap2 ys w9 HY.out (by omega) (bs_below HB2.out K9.out)).mono ?_
  rintro e w10 ⟨rfl, hb10⟩
  have OW10 := Lib.hid (OW9.out.below hb10 (Nat.le_refl _))
  have K10 := Lib.hid (K9.out.trans (hb10.mono K9.out.size))
  clear hb10
  go_wp2_with fail
  refine (sJoin (65535 - ofs xs) (65535 - ofs ys) w10 (by omega) (by omega)).mono ?_
  rintro e w' ⟨rfl, rfl⟩
  rw [HJ.out]
  obtain ⟨s, hs⟩ : ∃ s, s = ofs Z := ⟨_, rfl⟩
  rw [← hs] at b3
  have HSS := Lib.hid hs
  rw [← hs]
  clear hs b1 b2
  by_cases h5 : at' < 0
  · go_wp2_with fail
    go_ret
    exact ⟨rfl, K10.out⟩
  obtain ⟨k, rfl⟩ := Int.eq_ofNat_of_zero_le (a := at') (by omega)
  by_cases h6 : k % 2 = 1
  · have e6 : ((k : Int) % 2 != 0) = true := by rw [bne_iff_ne]; omega
    clear h6
    go_wp2_with fail
    go_ret
    exact ⟨rfl, K10.out⟩
  have e6 : ((k : Int) % 2 != 0) = false := by rw [bne_eq_false_iff_eq]; omega
  by_cases h7 : (N : Int) - 4 < (k : Int)
  · clear h6
    go_wp2_with fail
    go_ret
    exact ⟨rfl, K10.out⟩
  have HK : Hid (k % 2 = 0) := Lib.hid (by omega)
  have hkN : k + 4 ≤ N := by omega
  obtain ⟨g4, ha4, hg4, hog4⟩ := OW10.out.og (by omega)
  have OG4 := Lib.hid hog4
  have LZ : Hid (Z.length = N) := Lib.hid OW10.out.len
  have BZ := Lib.hid ((OW10.out.alloc (.cells #[] 5)).bs IZ.out)
  subst ha4
  obtain ⟨z0, hz0⟩ : ∃ z, z = Z.getD k 0 := ⟨_, rfl⟩
  obtain ⟨z1, hz1⟩ : ∃ z, z = Z.getD (k + 1) 0 := ⟨_, rfl⟩
  obtain ⟨z2, hz2⟩ : ∃ z, z = Z.getD (k + 2) 0 := ⟨_, rfl⟩
  obtain ⟨z3, hz3⟩ : ∃ z, z = Z.getD (k + 3) 0 := ⟨_, rfl⟩
  have HZ0 := Lib.hid hz0
  have HZ1 := Lib.hid hz1
  have HZ2 := Lib.hid hz2
  have HZ3 := Lib.hid hz3
  have e1 : ((k : Int) + 1).toNat = k + 1 := by omega
  have e2 : ((k : Int) + 2).toNat = k + 2 := by omega
  have e3 : ((k : Int) + 3).toNat = k + 3 := by omega
  have hltN := OG4.out.lt
  clear h6 hog4 hz0 hz1 hz2 hz3
  go_wp2_with ((with_reducible refine wpList_app_bs rfl (.tmp 69) (.tmp 70) rfl w10.heap.size (some ⟨w10.heap.size, 0, none⟩) 0 0 [] rfl (Ow.empty w10 (Nat.le_refl _)) (some ⟨g4, 0, none⟩) N c4 Z rfl LZ.out BZ.out (fun h => by cases h) (by omega) w10 (by simp) ((Below.refl _ _).alloc (Nat.le_refl _) _) ?_); intro a11 c11 w11 how11 hb11; rw [Nat.zero_add, List.nil_append] at how11; rw [Nat.zero_add]; obtain ⟨g, rfl, hg, hog⟩ := Ow.og how11.out (by omega); have OG11 := Lib.hid hog; have O411 := OG4.out.below hb11 OG4.out.lt; have K11 := Lib.hid (K10.out.trans (hb11.mono K10.out.size)); have hne : g4 ≠ g := (by omega); have c0 := O411.cell (k := k) (by rw [LZ.out]; omega); have c1 := O411.cell (k := k + 1) (by rw [LZ.out]; omega); have c2 := O411.cell (k := k + 2) (by rw [LZ.out]; omega); have c3 := O411.cell (k := k + 3) (by rw [LZ.out]; omega); have d0 := hog.cell (k := k) (by rw [LZ.out]; omega); have d1 := hog.cell (k := k + 1) (by rw [LZ.out]; omega); have d2 := hog.cell (k := k + 2) (by rw [LZ.out]; omega); have d3 := hog.cell (k := k + 3) (by rw [LZ.out]; omega); have f0 := hog.frozen k; have f1 := hog.frozen (k + 1); have f2 := hog.frozen (k + 2); have f3 := hog.frozen (k + 3); rw [← HZ0.out] at c0 d0; rw [← HZ1.out] at c1 d1; rw [← HZ2.out] at c2 d2; rw [← HZ3.out] at c3 d3; clear hog how11 O411 hb11)
  have OGF := Lib.hid ((((OG11.out.set k z2 (by rw [LZ.out]; omega)).set (k + 1) z3 (by rw [List.length_set, LZ.out]; omega)).set (k + 2) z0 (by rw [List.length_set, List.length_set, LZ.out]; omega)).set (k + 3) z1 (by rw [List.length_set, List.length_set, List.length_set, LZ.out]; omega))
  have ES : Hid ((((Z.set k z2).set (k + 1) z3).set (k + 2) z0).set (k + 3) z1 = swp Z k) := Lib.hid (by rw [HZ0.out, HZ1.out, HZ2.out, HZ3.out]; rfl)
  have hgw : w.heap.size ≤ g := Nat.le_trans K10.out.size hg
  have KF := Lib.hid ((((K11.out.setCell (p := ⟨g, k, none⟩) hgw (.int .u8 z2)).setCell (p := ⟨g, k + 1, none⟩) hgw (.int .u8 z3)).setCell (p := ⟨g, k + 2, none⟩) hgw (.int .u8 z0)).setCell (p := ⟨g, k + 3, none⟩) hgw (.int .u8 z1))
  have hogf := OGF.out
  rw [ES.out] at hogf
  refine (sOf _ N c11 (swp Z k) _ ((swp_len Z k).trans LZ.out) (by omega) (hogf.bs (isB_swp IZ.out k))).mono ?_
  rintro e w20 ⟨rfl, hb20⟩
  have K20 := Lib.hid (KF.out.trans (hb20.mono KF.out.size))
  rw [ofs_swp (by rw [LZ.out]; omega) HK.out, ← HSS.out]
  clear hb20 hogf
  go_wp2_with fail
  go_ret
  exact ⟨rfl, K20.out⟩

theorem contract (H : Type) (enc : TypeId × Value → H) (W : World) (base : Nat) (args : Array Value) (ds gs : List (DataW H)) (before : List MemPlace)
    (hval : ∀ (j : Nat) t v, Try.f6.params[j]? = some t → args[j]? = some v → Value.okWide Try.prog W .any base t v)
    (hW : DataW.Whole enc Try.prog Try.f6.params.toList Rows.sumSwapsSpec.vars false W args.toList ds gs before) (hsz : (DataW.weightsEach Try.prog (Try.f6.params.toList ++ Rows.sumSwapsSpec.plain.varTypes Try.prog) (ds ++ gs)).all (· ≤ reachBytes) = true) :
    Calls Try.prog 6 args W fun e W' => ∃ v, e = .returned v ∧ Rows.sumSwapsSpec.post enc Try.prog Try.f6 false true false false W args v W' := by
  have hW' := hW
  obtain ⟨p, q, hA0, hV, rfl, hfz, hnd⟩ := hW
  have hA : DataW.TrodAll enc Try.prog W 0 (fun _ => true) true Try.f6.params.toList args.toList ds p := hA0
  rw [Try.params6] at hA hval
  obtain ⟨v0, vs0, d0, ds0, p0, q0, hargs, rfl, rfl, h0, r0⟩ := trodAll_cons hA
  obtain ⟨v1, vs1, d1, ds1, p1, q1, rfl, rfl, rfl, h1, r1⟩ := trodAll_cons r0
  obtain ⟨v2, vs2, d2, ds2, p2, q2, rfl, rfl, rfl, h2, r2⟩ := trodAll_cons r1
  obtain ⟨rfl, rfl, rfl⟩ := trodAll_nil r2
  obtain rfl : args = #[v0, v1, v2] := by cases args; simp_all
  obtain ⟨rfl, rfl⟩ := trodVars_none hV
  have k0 := h0
  have lt0 : ∀ x ∈ p0, x.block < W.heap.size := by obtain ⟨m, hm⟩ := k0; exact DataW.trod_lt m _ _ _ hm
  have k1 := h1
  have lt1 : ∀ x ∈ p1, x.block < W.heap.size := by obtain ⟨m, hm⟩ := k1; exact DataW.trod_lt m _ _ _ hm
  have k2 := h2
  have lt2 : ∀ x ∈ p2, x.block < W.heap.size := by obtain ⟨m, hm⟩ := k2; exact DataW.trod_lt m _ _ _ hm
  obtain ⟨a0, len0, cap0, rfl⟩ := okWide_slice Try.underlying22 (hval 0 22 v0 rfl rfl)
  obtain ⟨z0, w0⟩ : ∃ zs, IsRow .u8 W a0 len0 cap0 zs := by
    obtain ⟨fuel, hf⟩ := h0
    rcases open_ints Try.underlying22 Try.underlying5 (by kernel_rfl) hf with ⟨hcs, _⟩ | ⟨x, l, c, zs, hcs, _, hl, hm, hz, _, hcell, hwz⟩
    · simp [Value.cells] at hcs
      obtain ⟨rfl, rfl, rfl⟩ := hcs
      exact ⟨[], .inl ⟨rfl, rfl, rfl, rfl⟩⟩
    · simp [Value.cells] at hcs
      obtain ⟨rfl, rfl, rfl⟩ := hcs
      exact ⟨zs, .inr ⟨_, rfl, hl, hm, by simpa using hz, hcell, hwz⟩⟩
  obtain ⟨b0, l0, m0⟩ := bs_of_row w0
  obtain ⟨a1, len1, cap1, rfl⟩ := okWide_slice Try.underlying22 (hval 1 22 v1 rfl rfl)
  obtain ⟨z1, w1⟩ : ∃ zs, IsRow .u8 W a1 len1 cap1 zs := by
    obtain ⟨fuel, hf⟩ := h1
    rcases open_ints Try.underlying22 Try.underlying5 (by kernel_rfl) hf with ⟨hcs, _⟩ | ⟨x, l, c, zs, hcs, _, hl, hm, hz, _, hcell, hwz⟩
    · simp [Value.cells] at hcs
      obtain ⟨rfl, rfl, rfl⟩ := hcs
      exact ⟨[], .inl ⟨rfl, rfl, rfl, rfl⟩⟩
    · simp [Value.cells] at hcs
      obtain ⟨rfl, rfl, rfl⟩ := hcs
      exact ⟨zs, .inr ⟨_, rfl, hl, hm, by simpa using hz, hcell, hwz⟩⟩
  obtain ⟨b1, l1, m1⟩ := bs_of_row w1
  obtain ⟨a2, rfl, rfl, rfl, w2⟩ := open_int Try.underlying3 (hval 2 3 v2 rfl rfl) h2
  clear hA0
  refine (walk W a0 len0 cap0 (z0.take len0) l0 m0 b0 (nil_of_row w0) (Nat.le_trans (len_cap w0) (reach_of hsz 0 rfl rfl Try.underlying22 Try.underlying5 (by kernel_rfl) (by kernel_rfl) k0)) a1 len1 cap1 (z1.take len1) l1 m1 b1 (nil_of_row w1) (Nat.le_trans (len_cap w1) (reach_of hsz 1 rfl rfl Try.underlying22 Try.underlying5 (by kernel_rfl) (by kernel_rfl) k1)) a2 (bounds_i64 w2)).mono fun e W' ⟨he, bel⟩ => ?_
  subst he
  exact ⟨_, rfl, _, _, _, [], _, [], hW', trodAll_mk1 (shut_bool Try.underlying4 _), (trodAll_cons_mk (Below.trod laidOut (by kernel_rfl) (of_decide_eq_true (by kernel_rfl)) k0 bel lt0) (trodAll_cons_mk (Below.trod laidOut (by kernel_rfl) (of_decide_eq_true (by kernel_rfl)) k1 bel lt1) (trodAll_cons_mk (Below.trod laidOut (by kernel_rfl) (of_decide_eq_true (by kernel_rfl)) k2 bel lt2) trodAll_mk0))), rfl, bel.frame _, fun h => by cases h⟩

set_option maxRecDepth 100000 in
theorem lifted (os : Os) (started : os.Started) (H : Type) (enc : TypeId × Value → H) :
    ReturnsInHanded {} Try.checked os 6 .any (Rows.sumSwapsSpec.pre6 enc Try.prog Try.f6 Rows.sumSwapsRow.domain false) (Rows.sumSwapsSpec.post enc Try.prog Try.f6 false true false false) := by
  refine returnsInHanded_of_change_sized (C := Try.checked) own started (by kernel_rfl) Try.func6
    (ChangeSpec.witness6 (enc := enc) (C := Try.checked) false ⟨#[], #[(.slice none 0 0), (.slice none 0 0), (.int .i64 0)], []⟩ 8 (by kernel_rfl) (by kernel_rfl) (by kernel_rfl) (by kernel_rfl)) ?_
  intro W base args ds gs before hval hW hcnd hsz _
  exact contract H enc W base args ds gs before hval hW hsz
theorem said : Rows.SumSwapsSaid :=
  OpenClaim.holds_of_wide 6 Try.f6 rfl rfl rfl rfl rfl rfl rfl ⟨rfl, rfl, rfl, rfl, rfl⟩ rfl rfl rfl rfl rfl (by kernel_rfl) Try.func6 (by kernel_rfl)
    (of_decide_eq_true (by kernel_rfl)) (by unfold Func.isWrapper; first | (rw [if_pos (by decide +kernel)]; kernel_rfl) | (rw [if_neg (by decide +kernel)]; exact ⟨rfl, rfl⟩))
    (fun os started H enc _ => lifted os started H enc)
#print axioms said
end Go.Proofs.Ytinpeblpmmmdeaa.sumSwaps
