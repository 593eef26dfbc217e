/- The law IgmpBack: every call returns true, and its arguments read behind the call as before it. Condition: none but the row's own. -/
import Derived.Test.YtmcnanoamgkljaaQ12
namespace Go.Proofs.Ytmcnanoamgkljaa.igmpBack
set_option linter.unusedVariables false
open Go.ChangeShapes Go.WideShapes Go.ChangeAt Go.RowKit
open Go.ChangeMaps (open_string shut_string)

theorem ow_some {w : World} {B n cap : Nat} {a : Option Addr} {xs : List Int} (h : Ow w B a n cap xs) (hn : 0 < n) : ∃ g, a = some ⟨g, 0, none⟩ ∧ B ≤ g ∧ n ≤ cap := by
  rcases h.1.2 with ⟨_, h0⟩ | ⟨g, c, cur, e, hB, hle, _⟩
  · omega
  · simp at e
    exact ⟨g, e.1, hB, by omega⟩
theorem one1 : ([0] : List Int).length = 1 := rfl
theorem bs_one0 (w : World) : Bs (w.alloc (.cells #[.int .u8 0] 5)) (some ⟨w.heap.size, 0, none⟩) [0] :=
  (Ob.of_heap (xs := [0]) (Go.Deep.blk_alloc_new w (.cells (vb [0]).toArray 5))).bs (isB_cons.2 ⟨by omega, isB_nil⟩)
set_option maxRecDepth 100000 in
set_option maxHeartbeats 4000000 in
theorem walkF (w : World) (m : Msg) (sa : Option Addr) (sc : Nat) (ra : Option Addr) (rc : Nat) (hms : Ms w m sa ra) (hf : few m = false) :
    Calls Try.prog 5 #[.agg #[.int .u8 m.kind, .int .i64 m.ver, .int .u8 m.code, .int .u32 m.grp, .bool m.quiet, .int .u8 m.rob, .int .u8 m.every, .slice sa m.srcs.length sc, .slice ra m.recs.length rc]] w fun e w' => e = .returned (.bool true) ∧ Below w.heap.size w w' := by
  have FW := Lib.hid hf
  clear hf
  have S0 := Lib.hid hms
  clear hms
  have ha := bel1 w (.cells #[.int .u8 m.kind, .int .i64 m.ver, .int .u8 m.code, .int .u32 m.grp, .bool m.quiet, .int .u8 m.rob, .int .u8 m.every, .slice sa m.srcs.length sc, .slice ra m.recs.length rc] 27)
  have BB := Lib.hid ha
  have S0 := Lib.hid (S0.out.below ha)
  have M0 := Lib.hid (MB.new w (.int .u8 m.kind) (.int .i64 m.ver) (.int .u8 m.code) (.int .u32 m.grp) (.bool m.quiet) (.int .u8 m.rob) (.int .u8 m.every) (.slice sa m.srcs.length sc) (.slice ra m.recs.length rc))
  clear ha
  go_enter Try.func5, Try.ntmps5
  go_wp2_with fail
  refine (iShown _).mono ?_
  rintro e w1 ⟨rfl, hb⟩
  have BB := Lib.hid (BB.out.trans (hb.mono BB.out.size))
  have S0 := Lib.hid (S0.out.below hb)
  have M0 := Lib.hid (M0.out.below hb M0.out.lt)
  clear hb
  obtain ⟨M0c0, M0c1, M0c2, M0c3, M0c4, M0c5, M0c6, M0c7, M0c8, -⟩ := M0.out.cells
  go_wp2_with fail
  refine (rFew m sa ra sc rc _ S0.out).mono ?_
  rintro e w2 ⟨rfl, hb⟩
  rw [FW.out]
  have BB := Lib.hid (BB.out.trans (hb.mono BB.out.size))
  have S0 := Lib.hid (S0.out.below hb)
  have M0 := Lib.hid (M0.out.below hb M0.out.lt)
  clear hb
  go_wp2
  go_ret
  exact ⟨rfl, BB.out⟩
set_option maxRecDepth 100000 in
set_option maxHeartbeats 4000000 in
theorem walkN (w : World) (m : Msg) (sa : Option Addr) (sc : Nat) (ra : Option Addr) (rc : Nat) (hms : Ms w m sa ra) (hf : few m = true) (hr : right m = false) :
    Calls Try.prog 5 #[.agg #[.int .u8 m.kind, .int .i64 m.ver, .int .u8 m.code, .int .u32 m.grp, .bool m.quiet, .int .u8 m.rob, .int .u8 m.every, .slice sa m.srcs.length sc, .slice ra m.recs.length rc]] w fun e w' => e = .returned (.bool true) ∧ Below w.heap.size w w' := by
  have FW := Lib.hid hf
  clear hf
  have HR := Lib.hid hr
  clear hr
  have S0 := Lib.hid hms
  clear hms
  have ha := bel1 w (.cells #[.int .u8 m.kind, .int .i64 m.ver, .int .u8 m.code, .int .u32 m.grp, .bool m.quiet, .int .u8 m.rob, .int .u8 m.every, .slice sa m.srcs.length sc, .slice ra m.recs.length rc] 27)
  have BB := Lib.hid ha
  have S0 := Lib.hid (S0.out.below ha)
  have M0 := Lib.hid (MB.new w (.int .u8 m.kind) (.int .i64 m.ver) (.int .u8 m.code) (.int .u32 m.grp) (.bool m.quiet) (.int .u8 m.rob) (.int .u8 m.every) (.slice sa m.srcs.length sc) (.slice ra m.recs.length rc))
  clear ha
  go_enter Try.func5, Try.ntmps5
  go_wp2_with fail
  refine (iShown _).mono ?_
  rintro e w1 ⟨rfl, hb⟩
  have BB := Lib.hid (BB.out.trans (hb.mono BB.out.size))
  have S0 := Lib.hid (S0.out.below hb)
  have M0 := Lib.hid (M0.out.below hb M0.out.lt)
  clear hb
  obtain ⟨M0c0, M0c1, M0c2, M0c3, M0c4, M0c5, M0c6, M0c7, M0c8, -⟩ := M0.out.cells
  go_wp2_with fail
  refine (rFew m sa ra sc rc _ S0.out).mono ?_
  rintro e w2 ⟨rfl, hb⟩
  rw [FW.out]
  have BB := Lib.hid (BB.out.trans (hb.mono BB.out.size))
  have S0 := Lib.hid (S0.out.below hb)
  have M0 := Lib.hid (M0.out.below hb M0.out.lt)
  clear hb
  obtain ⟨M0c0, M0c1, M0c2, M0c3, M0c4, M0c5, M0c6, M0c7, M0c8, -⟩ := M0.out.cells
  go_wp2_with fail
  refine (gEncode_no m sa ra sc rc _ S0.out HR.out).mono ?_
  rintro e w3 ⟨rfl, hb⟩
  have BB := Lib.hid (BB.out.trans (hb.mono BB.out.size))
  have S0 := Lib.hid (S0.out.below hb)
  have M0 := Lib.hid (M0.out.below hb M0.out.lt)
  clear hb
  obtain ⟨M0c0, M0c1, M0c2, M0c3, M0c4, M0c5, M0c6, M0c7, M0c8, -⟩ := M0.out.cells
  go_wp2_with fail
  refine (gRight m sa ra sc rc _ S0.out).mono ?_
  rintro e w4 ⟨rfl, hb⟩
  rw [HR.out]
  have BB := Lib.hid (BB.out.trans (hb.mono BB.out.size))
  have S0 := Lib.hid (S0.out.below hb)
  have M0 := Lib.hid (M0.out.below hb M0.out.lt)
  clear hb
  go_wp2
  go_ret
  exact ⟨rfl, BB.out⟩
set_option maxRecDepth 100000 in
set_option maxHeartbeats 4000000 in
theorem walkR (w : World) (m : Msg) (sa : Option Addr) (sc : Nat) (ra : Option Addr) (rc : Nat) (hms : Ms w m sa ra) (hf : few m = true) (hr : right m = true) :
    Calls Try.prog 5 #[.agg #[.int .u8 m.kind, .int .i64 m.ver, .int .u8 m.code, .int .u32 m.grp, .bool m.quiet, .int .u8 m.rob, .int .u8 m.every, .slice sa m.srcs.length sc, .slice ra m.recs.length rc]] w fun e w' => e = .returned (.bool true) ∧ Below w.heap.size w w' := by
  obtain ⟨n, hn⟩ : ∃ n, (enc0 m).length = n := ⟨_, rfl⟩
  obtain ⟨n8, n9⟩ := right_len hr
  rw [hn] at n8 n9
  have HF := Lib.hid hms.fit
  have n8' : (8 : Int) ≤ (n : Int) := by omega
  have NE := Lib.hid (enc_more hms.fit hr)
  have HB0 := Lib.hid (isB_append (isB_encM hms.fit hr) (isB_cons.2 ⟨by omega, isB_nil⟩ : IsB [0]))
  have FW := Lib.hid hf
  clear hf
  have HR := Lib.hid hr
  clear hr
  have HN := Lib.hid hn
  clear hn
  have S0 := Lib.hid hms
  clear hms
  have ha := bel1 w (.cells #[.int .u8 m.kind, .int .i64 m.ver, .int .u8 m.code, .int .u32 m.grp, .bool m.quiet, .int .u8 m.rob, .int .u8 m.every, .slice sa m.srcs.length sc, .slice ra m.recs.length rc] 27)
  have BB := Lib.hid ha
  have S0 := Lib.hid (S0.out.below ha)
  have M0 := Lib.hid (MB.new w (.int .u8 m.kind) (.int .i64 m.ver) (.int .u8 m.code) (.int .u32 m.grp) (.bool m.quiet) (.int .u8 m.rob) (.int .u8 m.every) (.slice sa m.srcs.length sc) (.slice ra m.recs.length rc))
  clear ha
  go_enter Try.func5, Try.ntmps5
  go_wp2_with fail
  refine (iShown _).mono ?_
  rintro e w1 ⟨rfl, hb⟩
  have BB := Lib.hid (BB.out.trans (hb.mono BB.out.size))
  have S0 := Lib.hid (S0.out.below hb)
  have M0 := Lib.hid (M0.out.below hb M0.out.lt)
  clear hb
  obtain ⟨M0c0, M0c1, M0c2, M0c3, M0c4, M0c5, M0c6, M0c7, M0c8, -⟩ := M0.out.cells
  go_wp2_with fail
  refine (rFew m sa ra sc rc _ S0.out).mono ?_
  rintro e w2 ⟨rfl, hb⟩
  rw [FW.out]
  have BB := Lib.hid (BB.out.trans (hb.mono BB.out.size))
  have S0 := Lib.hid (S0.out.below hb)
  have M0 := Lib.hid (M0.out.below hb M0.out.lt)
  clear hb
  obtain ⟨M0c0, M0c1, M0c2, M0c3, M0c4, M0c5, M0c6, M0c7, M0c8, -⟩ := M0.out.cells
  go_wp2_with fail
  refine (gEncode_ok m sa ra sc rc _ S0.out HF.out HR.out).mono ?_
  rintro e w3 ⟨gg, rfl, ho, hg, hb⟩
  rw [HN.out]
  have BB := Lib.hid (BB.out.trans (hb.mono BB.out.size))
  have S0 := Lib.hid (S0.out.below hb)
  have M0 := Lib.hid (M0.out.below hb M0.out.lt)
  have OG := Lib.hid (ho.bs (isB_encM HF.out HR.out))
  clear hb
  clear ho hg
  go_wp2_with fail
  refine (gDecode (some ⟨gg, 0, none⟩) n n (encM m) w3 (by rw [encM_len]; exact HN.out) (by omega) (Nat.le_refl _) OG.out).mono ?_
  rintro e w4 ⟨sa', sc', ra', rc', rfl, hms, hb⟩
  rw [decM_enc HF.out HR.out] at hms
  rw [decM_enc HF.out HR.out, decE_enc HF.out HR.out]
  have BB := Lib.hid (BB.out.trans (hb.mono BB.out.size))
  have OG := Lib.hid (bs_below OG.out hb)
  have S0 := Lib.hid (S0.out.below hb)
  have M0 := Lib.hid (M0.out.below hb M0.out.lt)
  have S1 := Lib.hid (hms)
  clear hb
  clear hms
  have ha := bel1 w4 (.cells #[.int .u8 m.kind, .int .i64 m.ver, .int .u8 m.code, .int .u32 m.grp, .bool m.quiet, .int .u8 m.rob, .int .u8 m.every, .slice sa' m.srcs.length sc', .slice ra' m.recs.length rc'] 27)
  have BB := Lib.hid (BB.out.trans (ha.mono BB.out.size))
  have OG := Lib.hid (bs_below OG.out ha)
  have S0 := Lib.hid (S0.out.below ha)
  have S1 := Lib.hid (S1.out.below ha)
  have M0 := Lib.hid (M0.out.below ha M0.out.lt)
  have M1 := Lib.hid (MB.new w4 (.int .u8 m.kind) (.int .i64 m.ver) (.int .u8 m.code) (.int .u32 m.grp) (.bool m.quiet) (.int .u8 m.rob) (.int .u8 m.every) (.slice sa' m.srcs.length sc') (.slice ra' m.recs.length rc'))
  clear ha
  obtain ⟨W, hW⟩ : ∃ W, w4.alloc (.cells #[.int .u8 m.kind, .int .i64 m.ver, .int .u8 m.code, .int .u32 m.grp, .bool m.quiet, .int .u8 m.rob, .int .u8 m.every, .slice sa' m.srcs.length sc', .slice ra' m.recs.length rc'] 27) = W := ⟨_, rfl⟩
  rw [hW] at BB OG S0 S1 M0 M1
  have M0l := M0.out.lt
  have M1l := M1.out.lt
  go_upto_region 8 with fail
  try rw [hW]
  clear hW
  go_wp2_with (first
    | ((with_reducible refine wpList_app_bs rfl (.tmp 39) (.tmp 40) rfl W.heap.size (some ⟨W.heap.size, 0, none⟩) 0 0 [] rfl (Ow.empty W (Nat.le_refl _)) (some ⟨gg, 0, none⟩) n n (encM m) rfl (by rw [encM_len]; exact HN.out) (bs_below OG.out ((Below.refl _ _).alloc (Nat.le_refl _) _)) (fun e => by cases e) (by omega) W (by simp) ((Below.refl _ _).alloc (Nat.le_refl _) _) ?_); intro a3 c3 w3 how3 hb3; rw [Nat.zero_add, List.nil_append] at how3; rw [Nat.zero_add]; have K3 := Lib.hid hb3; clear hb3)
    | ((with_reducible refine wpList_app_bs rfl (.tmp 41) (.tmp 42) rfl W.heap.size a3 n c3 (encM m) rfl (how3.out.alloc _) (some ⟨w3.heap.size, 0, none⟩) 1 1 [0] rfl one1 (bs_one0 w3) (fun e => by cases e) (by omega) W (K3.out.alloc K3.out.size _).size (K3.out.alloc K3.out.size _) ?_); intro a4 c4 w4 how4 hb4; obtain ⟨g4, eg4, -, hc4⟩ := ow_some how4.out (by omega); have K4 := Lib.hid hb4; have C4 := Lib.hid hc4; clear hb4 eg4 hc4)
    | fail)
  have BB := Lib.hid (BB.out.trans (K4.out.mono BB.out.size))
  have OG := Lib.hid (bs_below OG.out K4.out)
  have S0 := Lib.hid (S0.out.below K4.out)
  have S1 := Lib.hid (S1.out.below K4.out)
  have M0 := Lib.hid (M0.out.below K4.out M0.out.lt)
  have M1 := Lib.hid (M1.out.below K4.out M1.out.lt)
  go_wp2_with fail
  refine (gDecode a4 (n + 1) c4 (encM m ++ [0]) _ (by rw [List.length_append, encM_len, HN.out]; rfl) (by omega) C4.out (how4.out.bs HB0.out)).mono ?_
  rintro e w11 ⟨sb, sd, rb, rd, rfl, hms, hb⟩
  clear hms
  rw [dec_not NE.out]
  obtain ⟨f, ef⟩ : ∃ f, decE (encM m ++ [0]) = f := ⟨_, rfl⟩
  have hf2 : (f != 0) = true := by rw [bne_iff_ne, ← ef]; exact NE.out
  rw [ef]
  clear ef
  have BB := Lib.hid (BB.out.trans (hb.mono BB.out.size))
  have OG := Lib.hid (bs_below OG.out hb)
  have S0 := Lib.hid (S0.out.below hb)
  have S1 := Lib.hid (S1.out.below hb)
  have M0 := Lib.hid (M0.out.below hb M0.out.lt)
  have M1 := Lib.hid (M1.out.below hb M1.out.lt)
  clear hb
  have ha := bel1 w11 (.cells #[.int .u8 m0.kind, .int .i64 m0.ver, .int .u8 m0.code, .int .u32 m0.grp, .bool m0.quiet, .int .u8 m0.rob, .int .u8 m0.every, .slice sb m0.srcs.length sd, .slice rb m0.recs.length rd] 27)
  have BB := Lib.hid (BB.out.trans (ha.mono BB.out.size))
  have OG := Lib.hid (bs_below OG.out ha)
  have S0 := Lib.hid (S0.out.below ha)
  have S1 := Lib.hid (S1.out.below ha)
  have M0 := Lib.hid (M0.out.below ha M0.out.lt)
  have M1 := Lib.hid (M1.out.below ha M1.out.lt)
  have M2 := Lib.hid (MB.new w11 (.int .u8 m0.kind) (.int .i64 m0.ver) (.int .u8 m0.code) (.int .u32 m0.grp) (.bool m0.quiet) (.int .u8 m0.rob) (.int .u8 m0.every) (.slice sb m0.srcs.length sd) (.slice rb m0.recs.length rd))
  clear ha
  obtain ⟨M0c0, M0c1, M0c2, M0c3, M0c4, M0c5, M0c6, M0c7, M0c8, -⟩ := M0.out.cells
  obtain ⟨M1c0, M1c1, M1c2, M1c3, M1c4, M1c5, M1c6, M1c7, M1c8, -⟩ := M1.out.cells
  obtain ⟨M2c0, M2c1, M2c2, M2c3, M2c4, M2c5, M2c6, M2c7, M2c8, -⟩ := M2.out.cells
  go_wp2_with fail
  refine (rSameM m m sa' ra' sa ra sc' rc' sc rc _ S1.out S0.out).mono ?_
  rintro e w12 ⟨rfl, hb⟩
  rw [(sameM_iff m m).2 rfl]
  have BB := Lib.hid (BB.out.trans (hb.mono BB.out.size))
  have OG := Lib.hid (bs_below OG.out hb)
  have S0 := Lib.hid (S0.out.below hb)
  have S1 := Lib.hid (S1.out.below hb)
  have M0 := Lib.hid (M0.out.below hb M0.out.lt)
  have M1 := Lib.hid (M1.out.below hb M1.out.lt)
  have M2 := Lib.hid (M2.out.below hb M2.out.lt)
  clear hb
  go_wp2
  go_ret
  exact ⟨rfl, BB.out⟩
theorem walk (w : World) (m : Msg) (sa : Option Addr) (sc : Nat) (ra : Option Addr) (rc : Nat) (hms : Ms w m sa ra) :
    Calls Try.prog 5 #[.agg #[.int .u8 m.kind, .int .i64 m.ver, .int .u8 m.code, .int .u32 m.grp, .bool m.quiet, .int .u8 m.rob, .int .u8 m.every, .slice sa m.srcs.length sc, .slice ra m.recs.length rc]] w fun e w' => e = .returned (.bool true) ∧ Below w.heap.size w w' := by
  cases hf : few m with
  | false => exact walkF w m sa sc ra rc hms hf
  | true =>
    cases hr : right m with
    | false => exact walkN w m sa sc ra rc hms hf hr
    | true => exact walkR w m sa sc ra rc hms hf hr

theorem contract (H : Type) (enc : TypeId × Value → H) (W : World) (base : Nat) (args : Array Value) (ds gs : List (DataW H)) (before : List MemPlace)
    (hval : ∀ (j : Nat) t v, Try.f5.params[j]? = some t → args[j]? = some v → Value.okWide Try.prog W .any base t v)
    (hW : DataW.Whole enc Try.prog Try.f5.params.toList Rows.igmpBackSpec.vars false W args.toList ds gs before) (hsz : (DataW.weightsEach Try.prog (Try.f5.params.toList ++ Rows.igmpBackSpec.plain.varTypes Try.prog) (ds ++ gs)).all (· ≤ reachBytes) = true) :
    Calls Try.prog 5 args W fun e W' => ∃ v, e = .returned v ∧ Rows.igmpBackSpec.post enc Try.prog Try.f5 false true false false W args v W' := by
  have hW' := hW
  obtain ⟨p, q, hA0, hV, rfl, hfz, hnd⟩ := hW
  have hA : DataW.TrodAll enc Try.prog W 0 (fun _ => true) true Try.f5.params.toList args.toList ds p := hA0
  rw [Try.params5] at hA hval
  obtain ⟨v0, vs0, d0, ds0, p0, q0, hargs, rfl, rfl, h0, r0⟩ := trodAll_cons hA
  obtain ⟨rfl, rfl, rfl⟩ := trodAll_nil r0
  obtain rfl : args = #[v0] := by cases args; simp_all
  obtain ⟨rfl, rfl⟩ := trodVars_none hV
  have k0 := h0
  have lt0 : ∀ x ∈ p0, x.block < W.heap.size := by obtain ⟨m, hm⟩ := k0; exact DataW.trod_lt m _ _ _ hm
  obtain ⟨m0, sa0, sc0, ra0, rc0, rfl, ms0⟩ := open_msg (hval 0 27 v0 rfl rfl) h0 (fun x hx => by simpa using List.all_eq_true.1 hsz _ (DataW.weights_mem_each (j := 0) rfl rfl x hx))
  clear hA0
  refine (walk W m0 sa0 sc0 ra0 rc0 ms0).mono fun e W' ⟨he, bel⟩ => ?_
  subst he
  exact ⟨_, rfl, _, _, _, [], _, [], hW', trodAll_mk1 (shut_bool Try.underlying4 _), (trodAll_cons_mk (Below.trod laidOut (by kernel_rfl) (of_decide_eq_true (by kernel_rfl)) k0 bel lt0) trodAll_mk0), rfl, bel.frame _, fun h => by cases h⟩

set_option maxRecDepth 100000 in
theorem lifted (os : Os) (started : os.Started) (H : Type) (enc : TypeId × Value → H) :
    ReturnsInHanded {} Try.checked os 5 .any (Rows.igmpBackSpec.pre6 enc Try.prog Try.f5 Rows.igmpBackRow.domain false) (Rows.igmpBackSpec.post enc Try.prog Try.f5 false true false false) := by
  refine returnsInHanded_of_change_sized (C := Try.checked) own started (by kernel_rfl) Try.func5
    (ChangeSpec.witness6 (enc := enc) (C := Try.checked) false ⟨#[], #[(.agg #[.int .u8 0, .int .i64 0, .int .u8 0, .int .u32 0, .bool false, .int .u8 0, .int .u8 0, .slice none 0 0, .slice none 0 0])], []⟩ 8 (by kernel_rfl) (by kernel_rfl) (by kernel_rfl) (by kernel_rfl)) ?_
  intro W base args ds gs before hval hW hcnd hsz _
  exact contract H enc W base args ds gs before hval hW hsz
theorem said : Rows.IgmpBackSaid :=
  OpenClaim.holds_of_wide 5 Try.f5 rfl rfl rfl rfl rfl rfl rfl ⟨rfl, rfl, rfl, rfl, rfl⟩ rfl rfl rfl rfl rfl (by kernel_rfl) Try.func5 (by kernel_rfl)
    (of_decide_eq_true (by kernel_rfl)) (by unfold Func.isWrapper; first | (rw [if_pos (by decide +kernel)]; kernel_rfl) | (rw [if_neg (by decide +kernel)]; exact ⟨rfl, rfl⟩))
    (fun os started H enc _ => lifted os started H enc)
#print axioms said
end Go.Proofs.Ytmcnanoamgkljaa.igmpBack
