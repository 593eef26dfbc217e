/- The law IgmpOnly: every call returns true, and its arguments read behind the call as before it. Condition: none but the row's own. -/
import Derived.Test.YtmcnanoamgkljaaQ12
namespace Go.Proofs.Ytmcnanoamgkljaa.igmpOnly
set_option linter.unusedVariables false
open Go.ChangeShapes Go.WideShapes Go.ChangeAt Go.RowKit
open Go.ChangeMaps (open_string shut_string)

set_option maxRecDepth 100000 in
set_option maxHeartbeats 4000000 in
theorem walkL (w : World) (a : Option Addr) (n c : Nat) (xs : List Int) (hx : xs.length = n) (hm : n ≤ 9223372036854775807) (hb : Bs w a xs) (hnil : a = none → n = 0 ∧ c = 0) (hnc : n ≤ c) (q1 : 3000 < n) :
    Calls Try.prog 6 #[.slice a n c] w fun e w' => e = .returned (.bool true) ∧ Below w.heap.size w w' := by
  have HX := Lib.hid hx
  have OX := Lib.hid hb
  have HNC := Lib.hid hnc
  clear hx hb hnil hnc
  go_enter Try.func6, Try.ntmps6
  go_wp2_with fail
  refine (iShown _).mono ?_
  rintro e w1 ⟨rfl, hb⟩
  have BB := Lib.hid hb
  have OX := Lib.hid (bs_below OX.out hb)
  clear hb
  go_wp2
  go_ret
  exact ⟨rfl, BB.out⟩
set_option maxRecDepth 100000 in
set_option maxHeartbeats 4000000 in
theorem walkE (w : World) (a : Option Addr) (n c : Nat) (xs : List Int) (hx : xs.length = n) (hm : n ≤ 9223372036854775807) (hb : Bs w a xs) (hnil : a = none → n = 0 ∧ c = 0) (hnc : n ≤ c) (q1 : ¬ 3000 < n) (hE : decE xs ≠ 0) :
    Calls Try.prog 6 #[.slice a n c] w fun e w' => e = .returned (.bool true) ∧ Below w.heap.size w w' := by
  have HX := Lib.hid hx
  have OX := Lib.hid hb
  have HNC := Lib.hid hnc
  clear hx hb hnil hnc
  have HE := Lib.hid hE
  clear hE
  go_enter Try.func6, Try.ntmps6
  go_wp2_with fail
  refine (iShown _).mono ?_
  rintro e w1 ⟨rfl, hb⟩
  have BB := Lib.hid hb
  have OX := Lib.hid (bs_below OX.out hb)
  clear hb
  go_wp2_with fail
  refine (gDecode a n c xs w1 HX.out (by omega) HNC.out OX.out).mono ?_
  rintro e w2 ⟨sa, sc, ra, rc, rfl, hms, hb⟩
  rw [dec_not HE.out] at hms
  rw [dec_not HE.out]
  obtain ⟨f, ef⟩ : ∃ f, decE xs = f := ⟨_, rfl⟩
  have HE' := HE.out
  rw [ef] at HE'
  rw [ef]
  have hf1 : (f == 0) = false := by rw [beq_eq_false_iff_ne]; exact HE'
  have hf2 : (f != 0) = true := by rw [bne, hf1]; rfl
  clear HE' ef
  have BB := Lib.hid (BB.out.trans (hb.mono BB.out.size))
  have OX := Lib.hid (bs_below OX.out hb)
  have S1 := Lib.hid (hms)
  clear hb
  clear hms
  have ha := bel1 w2 (.cells #[.int .u8 m0.kind, .int .i64 m0.ver, .int .u8 m0.code, .int .u32 m0.grp, .bool m0.quiet, .int .u8 m0.rob, .int .u8 m0.every, .slice sa m0.srcs.length sc, .slice ra m0.recs.length rc] 27)
  have BB := Lib.hid (BB.out.trans (ha.mono BB.out.size))
  have OX := Lib.hid (bs_below OX.out ha)
  have S1 := Lib.hid (S1.out.below ha)
  have M1 := Lib.hid (MB.new w2 (.int .u8 m0.kind) (.int .i64 m0.ver) (.int .u8 m0.code) (.int .u32 m0.grp) (.bool m0.quiet) (.int .u8 m0.rob) (.int .u8 m0.every) (.slice sa m0.srcs.length sc) (.slice ra m0.recs.length rc))
  clear ha
  obtain ⟨M1c0, M1c1, M1c2, M1c3, M1c4, M1c5, M1c6, M1c7, M1c8, -⟩ := M1.out.cells
  go_wp2_with fail
  refine (rSameM m0 m0 sa ra none none sc rc 0 0 _ S1.out (ms0 _)).mono ?_
  rintro e w3 ⟨rfl, hb⟩
  rw [(sameM_iff m0 m0).2 rfl]
  have BB := Lib.hid (BB.out.trans (hb.mono BB.out.size))
  have OX := Lib.hid (bs_below OX.out hb)
  have S1 := Lib.hid (S1.out.below hb)
  have M1 := Lib.hid (M1.out.below hb M1.out.lt)
  clear hb
  go_wp2
  go_ret
  exact ⟨rfl, BB.out⟩
set_option maxRecDepth 100000 in
set_option maxHeartbeats 4000000 in
theorem walkR (w : World) (a : Option Addr) (n c : Nat) (xs : List Int) (hx : xs.length = n) (hm : n ≤ 9223372036854775807) (hb : Bs w a xs) (hnil : a = none → n = 0 ∧ c = 0) (hnc : n ≤ c) (q1 : ¬ 3000 < n) (hE : decE xs = 0) :
    Calls Try.prog 6 #[.slice a n c] w fun e w' => e = .returned (.bool true) ∧ Below w.heap.size w w' := by
  have HX := Lib.hid hx
  have OX := Lib.hid hb
  have HNC := Lib.hid hnc
  clear hx hb hnil hnc
  have HE := Lib.hid hE
  clear hE
  go_enter Try.func6, Try.ntmps6
  go_wp2_with fail
  refine (iShown _).mono ?_
  rintro e w1 ⟨rfl, hb⟩
  have BB := Lib.hid hb
  have OX := Lib.hid (bs_below OX.out hb)
  clear hb
  go_wp2_with fail
  refine (gDecode a n c xs w1 HX.out (by omega) HNC.out OX.out).mono ?_
  rintro e w2 ⟨sa, sc, ra, rc, rfl, hms, hb⟩
  rw [HE.out]
  obtain ⟨m, em⟩ : ∃ m, decM xs = m := ⟨_, rfl⟩
  rw [em] at hms
  rw [em]
  have HR := Lib.hid (em ▸ (dec_len HE.out).1 : right m = true)
  have HL := Lib.hid ((em ▸ (dec_len HE.out).2 : (enc0 m).length = xs.length).trans HX.out)
  have HF := Lib.hid hms.fit
  clear em
  have BB := Lib.hid (BB.out.trans (hb.mono BB.out.size))
  have OX := Lib.hid (bs_below OX.out hb)
  have S1 := Lib.hid (hms)
  clear hb
  clear hms
  have ha := bel1 w2 (.cells #[.int .u8 m.kind, .int .i64 m.ver, .int .u8 m.code, .int .u32 m.grp, .bool m.quiet, .int .u8 m.rob, .int .u8 m.every, .slice sa m.srcs.length sc, .slice ra m.recs.length rc] 27)
  have BB := Lib.hid (BB.out.trans (ha.mono BB.out.size))
  have OX := Lib.hid (bs_below OX.out ha)
  have S1 := Lib.hid (S1.out.below ha)
  have M1 := Lib.hid (MB.new w2 (.int .u8 m.kind) (.int .i64 m.ver) (.int .u8 m.code) (.int .u32 m.grp) (.bool m.quiet) (.int .u8 m.rob) (.int .u8 m.every) (.slice sa m.srcs.length sc) (.slice ra m.recs.length rc))
  clear ha
  obtain ⟨M1c0, M1c1, M1c2, M1c3, M1c4, M1c5, M1c6, M1c7, M1c8, -⟩ := M1.out.cells
  go_wp2_with fail
  refine (gEncode_ok m sa ra sc rc _ S1.out HF.out HR.out).mono ?_
  rintro e w3 ⟨gg, rfl, ho, hg, hb⟩
  rw [HL.out]
  have BB := Lib.hid (BB.out.trans (hb.mono BB.out.size))
  have OX := Lib.hid (bs_below OX.out hb)
  have S1 := Lib.hid (S1.out.below hb)
  have M1 := Lib.hid (M1.out.below hb M1.out.lt)
  have OG := Lib.hid (ho.bs (isB_encM HF.out HR.out))
  clear hb
  clear ho hg
  go_wp2_with fail
  refine (gDecode (some ⟨gg, 0, none⟩) n n (encM m) w3 (by rw [encM_len]; exact HL.out) (by omega) (Nat.le_refl _) OG.out).mono ?_
  rintro e w4 ⟨sa', sc', ra', rc', rfl, hms, hb⟩
  rw [decM_enc HF.out HR.out] at hms
  rw [decM_enc HF.out HR.out, decE_enc HF.out HR.out]
  have BB := Lib.hid (BB.out.trans (hb.mono BB.out.size))
  have OX := Lib.hid (bs_below OX.out hb)
  have OG := Lib.hid (bs_below OG.out hb)
  have S1 := Lib.hid (S1.out.below hb)
  have M1 := Lib.hid (M1.out.below hb M1.out.lt)
  have S2 := Lib.hid (hms)
  clear hb
  clear hms
  have ha := bel1 w4 (.cells #[.int .u8 m.kind, .int .i64 m.ver, .int .u8 m.code, .int .u32 m.grp, .bool m.quiet, .int .u8 m.rob, .int .u8 m.every, .slice sa' m.srcs.length sc', .slice ra' m.recs.length rc'] 27)
  have BB := Lib.hid (BB.out.trans (ha.mono BB.out.size))
  have OX := Lib.hid (bs_below OX.out ha)
  have OG := Lib.hid (bs_below OG.out ha)
  have S1 := Lib.hid (S1.out.below ha)
  have S2 := Lib.hid (S2.out.below ha)
  have M1 := Lib.hid (M1.out.below ha M1.out.lt)
  have M2 := Lib.hid (MB.new w4 (.int .u8 m.kind) (.int .i64 m.ver) (.int .u8 m.code) (.int .u32 m.grp) (.bool m.quiet) (.int .u8 m.rob) (.int .u8 m.every) (.slice sa' m.srcs.length sc') (.slice ra' m.recs.length rc'))
  clear ha
  obtain ⟨M1c0, M1c1, M1c2, M1c3, M1c4, M1c5, M1c6, M1c7, M1c8, -⟩ := M1.out.cells
  go_wp2_with fail
  refine (gRight m sa ra sc rc _ S1.out).mono ?_
  rintro e w5 ⟨rfl, hb⟩
  rw [HR.out]
  have BB := Lib.hid (BB.out.trans (hb.mono BB.out.size))
  have OX := Lib.hid (bs_below OX.out hb)
  have OG := Lib.hid (bs_below OG.out hb)
  have S1 := Lib.hid (S1.out.below hb)
  have S2 := Lib.hid (S2.out.below hb)
  have M1 := Lib.hid (M1.out.below hb M1.out.lt)
  have M2 := Lib.hid (M2.out.below hb M2.out.lt)
  clear hb
  obtain ⟨M1c0, M1c1, M1c2, M1c3, M1c4, M1c5, M1c6, M1c7, M1c8, -⟩ := M1.out.cells
  obtain ⟨M2c0, M2c1, M2c2, M2c3, M2c4, M2c5, M2c6, M2c7, M2c8, -⟩ := M2.out.cells
  go_wp2_with fail
  refine (rSameM m m sa ra sa' ra' sc rc sc' rc' _ S1.out S2.out).mono ?_
  rintro e w6 ⟨rfl, hb⟩
  rw [(sameM_iff m m).2 rfl]
  have BB := Lib.hid (BB.out.trans (hb.mono BB.out.size))
  have OX := Lib.hid (bs_below OX.out hb)
  have OG := Lib.hid (bs_below OG.out hb)
  have S1 := Lib.hid (S1.out.below hb)
  have S2 := Lib.hid (S2.out.below hb)
  have M1 := Lib.hid (M1.out.below hb M1.out.lt)
  have M2 := Lib.hid (M2.out.below hb M2.out.lt)
  clear hb
  go_wp2
  go_ret
  exact ⟨rfl, BB.out⟩
theorem walk (w : World) (a : Option Addr) (n c : Nat) (xs : List Int) (hx : xs.length = n) (hm : n ≤ 9223372036854775807) (hb : Bs w a xs) (hnil : a = none → n = 0 ∧ c = 0) (hnc : n ≤ c) :
    Calls Try.prog 6 #[.slice a n c] w fun e w' => e = .returned (.bool true) ∧ Below w.heap.size w w' := by
  by_cases q1 : 3000 < n
  · exact walkL w a n c xs hx hm hb hnil hnc q1
  by_cases hE : decE xs = 0
  · exact walkR w a n c xs hx hm hb hnil hnc q1 hE
  · exact walkE w a n c xs hx hm hb hnil hnc q1 hE

theorem contract (H : Type) (enc : TypeId × Value → H) (W : World) (base : Nat) (args : Array Value) (ds gs : List (DataW H)) (before : List MemPlace)
    (hval : ∀ (j : Nat) t v, Try.f6.params[j]? = some t → args[j]? = some v → Value.okWide Try.prog W .any base t v)
    (hW : DataW.Whole enc Try.prog Try.f6.params.toList Rows.igmpOnlySpec.vars false W args.toList ds gs before) :
    Calls Try.prog 6 args W fun e W' => ∃ v, e = .returned v ∧ Rows.igmpOnlySpec.post enc Try.prog Try.f6 false true false false W args v W' := by
  have hW' := hW
  obtain ⟨p, q, hA0, hV, rfl, hfz, hnd⟩ := hW
  have hA : DataW.TrodAll enc Try.prog W 0 (fun _ => true) true Try.f6.params.toList args.toList ds p := hA0
  rw [Try.params6] at hA hval
  obtain ⟨v0, vs0, d0, ds0, p0, q0, hargs, rfl, rfl, h0, r0⟩ := trodAll_cons hA
  obtain ⟨rfl, rfl, rfl⟩ := trodAll_nil r0
  obtain rfl : args = #[v0] := by cases args; simp_all
  obtain ⟨rfl, rfl⟩ := trodVars_none hV
  have k0 := h0
  have lt0 : ∀ x ∈ p0, x.block < W.heap.size := by obtain ⟨m, hm⟩ := k0; exact DataW.trod_lt m _ _ _ hm
  obtain ⟨a0, len0, cap0, rfl⟩ := okWide_slice Try.underlying30 (hval 0 30 v0 rfl rfl)
  obtain ⟨z0, w0⟩ : ∃ zs, IsRow .u8 W a0 len0 cap0 zs := by
    obtain ⟨fuel, hf⟩ := h0
    rcases open_ints Try.underlying30 Try.underlying5 (by kernel_rfl) hf with ⟨hcs, _⟩ | ⟨x, l, c, zs, hcs, _, hl, hm, hz, _, hcell, hwz⟩
    · simp [Value.cells] at hcs
      obtain ⟨rfl, rfl, rfl⟩ := hcs
      exact ⟨[], .inl ⟨rfl, rfl, rfl, rfl⟩⟩
    · simp [Value.cells] at hcs
      obtain ⟨rfl, rfl, rfl⟩ := hcs
      exact ⟨zs, .inr ⟨_, rfl, hl, hm, by simpa using hz, hcell, hwz⟩⟩
  obtain ⟨b0, l0, m0⟩ := bs_of_row w0
  clear hA0
  refine (walk W a0 len0 cap0 (z0.take len0) l0 m0 b0 (nil_of_row w0) (len_cap w0)).mono fun e W' ⟨he, bel⟩ => ?_
  subst he
  exact ⟨_, rfl, _, _, _, [], _, [], hW', trodAll_mk1 (shut_bool Try.underlying4 _), (trodAll_cons_mk (Below.trod laidOut (by kernel_rfl) (of_decide_eq_true (by kernel_rfl)) k0 bel lt0) trodAll_mk0), rfl, bel.frame _, fun h => by cases h⟩

set_option maxRecDepth 100000 in
theorem lifted (os : Os) (started : os.Started) (H : Type) (enc : TypeId × Value → H) :
    ReturnsInHanded {} Try.checked os 6 .any (Rows.igmpOnlySpec.pre6 enc Try.prog Try.f6 Rows.igmpOnlyRow.domain false) (Rows.igmpOnlySpec.post enc Try.prog Try.f6 false true false false) := by
  refine returnsInHanded_of_change (C := Try.checked) own started (by kernel_rfl) Try.func6
    (ChangeSpec.witness6 (enc := enc) (C := Try.checked) false ⟨#[], #[(.slice none 0 0)], []⟩ 8 (by kernel_rfl) (by kernel_rfl) (by kernel_rfl) (by kernel_rfl)) ?_
  intro W base args ds gs before hval hW hcnd _
  exact contract H enc W base args ds gs before hval hW
theorem said : Rows.IgmpOnlySaid :=
  OpenClaim.holds_of_wide 6 Try.f6 rfl rfl rfl rfl rfl rfl rfl ⟨rfl, rfl, rfl, rfl, rfl⟩ rfl rfl rfl rfl rfl (by kernel_rfl) Try.func6 (by kernel_rfl)
    (of_decide_eq_true (by kernel_rfl)) (by unfold Func.isWrapper; first | (rw [if_pos (by decide +kernel)]; kernel_rfl) | (rw [if_neg (by decide +kernel)]; exact ⟨rfl, rfl⟩))
    (fun os started H enc _ => lifted os started H enc)
#print axioms said
end Go.Proofs.Ytmcnanoamgkljaa.igmpOnly
