/- The law IgmpOneOff: every call returns true, and its arguments read behind the call as before it. Condition: none but the row's own. -/
import Derived.Test.YtmcnanoamgkljaaQ12
namespace Go.Proofs.Ytmcnanoamgkljaa.igmpOneOff
set_option linter.unusedVariables false
open Go.ChangeShapes Go.WideShapes Go.ChangeAt Go.RowKit
open Go.ChangeMaps (open_string shut_string)

theorem other {xs : List Int} (h : IsB xs) {k : Nat} (hk : k < xs.length) {v : Int} (hv : v ≠ xs.getD k 0) (h0 : 0 ≤ v) (h1 : v ≤ 255) (hw : ofs xs = 0) : ofs (xs.set k v) ≠ 0 := by
  intro h2
  have e := tot_set xs k v hk
  have hx := h k hk
  have t1 := (ofs_zero h).1 hw
  have t2 := (ofs_zero (isB_set h k h0 h1)).1 h2
  have hwt : wt k = 256 ∨ wt k = 1 := by unfold wt; split <;> simp
  generalize tot (xs.set k v) = T at *
  generalize tot xs = S at *
  generalize xs.getD k 0 = x at *
  rcases hwt with hwt | hwt <;> rw [hwt] at e <;> omega
theorem dec_off {xs : List Int} (h8 : 8 ≤ xs.length) (ho : ofs xs ≠ 0) : decE xs = 4 := by
  unfold decE
  rw [if_neg (by omega), if_pos ho]
set_option maxRecDepth 100000 in
set_option maxHeartbeats 4000000 in
theorem walkF (w : World) (m : Msg) (sa : Option Addr) (sc : Nat) (ra : Option Addr) (rc : Nat) (hms : Ms w m sa ra)(at0 : Int) (hat : -9223372036854775808 ≤ at0 ∧ at0 ≤ 9223372036854775807) (y : Int) (hy : 0 ≤ y ∧ y ≤ 255) (hf : few m = false) :
    Calls Try.prog 10 #[.agg #[.int .u8 m.kind, .int .i64 m.ver, .int .u8 m.code, .int .u32 m.grp, .bool m.quiet, .int .u8 m.rob, .int .u8 m.every, .slice sa m.srcs.length sc, .slice ra m.recs.length rc], .int .i64 at0, .int .u8 y] w fun e w' => e = .returned (.bool true) ∧ Below w.heap.size w w' := by
  have FW := Lib.hid hf
  clear hf
  have S0 := Lib.hid hms
  clear hms
  have ha := bel1 w (.cells #[.int .u8 m.kind, .int .i64 m.ver, .int .u8 m.code, .int .u32 m.grp, .bool m.quiet, .int .u8 m.rob, .int .u8 m.every, .slice sa m.srcs.length sc, .slice ra m.recs.length rc] 27)
  have BB := Lib.hid ha
  have S0 := Lib.hid (S0.out.below ha)
  have M0 := Lib.hid (MB.new w (.int .u8 m.kind) (.int .i64 m.ver) (.int .u8 m.code) (.int .u32 m.grp) (.bool m.quiet) (.int .u8 m.rob) (.int .u8 m.every) (.slice sa m.srcs.length sc) (.slice ra m.recs.length rc))
  clear ha
  go_enter Try.func10, Try.ntmps10
  go_wp2_with fail
  refine (iShown _).mono ?_
  rintro e w1 ⟨rfl, hb⟩
  have BB := Lib.hid (BB.out.trans (hb.mono BB.out.size))
  have S0 := Lib.hid (S0.out.below hb)
  have M0 := Lib.hid (M0.out.below hb M0.out.lt)
  clear hb
  obtain ⟨M0c0, M0c1, M0c2, M0c3, M0c4, M0c5, M0c6, M0c7, M0c8, -⟩ := M0.out.cells
  go_wp2_with fail
  refine (rFew m sa ra sc rc _ S0.out).mono ?_
  rintro e w2 ⟨rfl, hb⟩
  rw [FW.out]
  have BB := Lib.hid (BB.out.trans (hb.mono BB.out.size))
  have S0 := Lib.hid (S0.out.below hb)
  have M0 := Lib.hid (M0.out.below hb M0.out.lt)
  clear hb
  go_wp2
  go_ret
  exact ⟨rfl, BB.out⟩
set_option maxRecDepth 100000 in
set_option maxHeartbeats 4000000 in
theorem walkZ (w : World) (m : Msg) (sa : Option Addr) (sc : Nat) (ra : Option Addr) (rc : Nat) (hms : Ms w m sa ra)(at0 : Int) (hat : -9223372036854775808 ≤ at0 ∧ at0 ≤ 9223372036854775807) (hf : few m = true) :
    Calls Try.prog 10 #[.agg #[.int .u8 m.kind, .int .i64 m.ver, .int .u8 m.code, .int .u32 m.grp, .bool m.quiet, .int .u8 m.rob, .int .u8 m.every, .slice sa m.srcs.length sc, .slice ra m.recs.length rc], .int .i64 at0, .int .u8 0] w fun e w' => e = .returned (.bool true) ∧ Below w.heap.size w w' := by
  have FW := Lib.hid hf
  clear hf
  have S0 := Lib.hid hms
  clear hms
  have ha := bel1 w (.cells #[.int .u8 m.kind, .int .i64 m.ver, .int .u8 m.code, .int .u32 m.grp, .bool m.quiet, .int .u8 m.rob, .int .u8 m.every, .slice sa m.srcs.length sc, .slice ra m.recs.length rc] 27)
  have BB := Lib.hid ha
  have S0 := Lib.hid (S0.out.below ha)
  have M0 := Lib.hid (MB.new w (.int .u8 m.kind) (.int .i64 m.ver) (.int .u8 m.code) (.int .u32 m.grp) (.bool m.quiet) (.int .u8 m.rob) (.int .u8 m.every) (.slice sa m.srcs.length sc) (.slice ra m.recs.length rc))
  clear ha
  go_enter Try.func10, Try.ntmps10
  go_wp2_with fail
  refine (iShown _).mono ?_
  rintro e w1 ⟨rfl, hb⟩
  have BB := Lib.hid (BB.out.trans (hb.mono BB.out.size))
  have S0 := Lib.hid (S0.out.below hb)
  have M0 := Lib.hid (M0.out.below hb M0.out.lt)
  clear hb
  obtain ⟨M0c0, M0c1, M0c2, M0c3, M0c4, M0c5, M0c6, M0c7, M0c8, -⟩ := M0.out.cells
  go_wp2_with fail
  refine (rFew m sa ra sc rc _ S0.out).mono ?_
  rintro e w2 ⟨rfl, hb⟩
  rw [FW.out]
  have BB := Lib.hid (BB.out.trans (hb.mono BB.out.size))
  have S0 := Lib.hid (S0.out.below hb)
  have M0 := Lib.hid (M0.out.below hb M0.out.lt)
  clear hb
  go_wp2
  go_ret
  exact ⟨rfl, BB.out⟩
set_option maxRecDepth 100000 in
set_option maxHeartbeats 4000000 in
theorem walkN (w : World) (m : Msg) (sa : Option Addr) (sc : Nat) (ra : Option Addr) (rc : Nat) (hms : Ms w m sa ra)(at0 : Int) (hat : -9223372036854775808 ≤ at0 ∧ at0 ≤ 9223372036854775807) (y : Int) (hy : 0 ≤ y ∧ y ≤ 255) (hf : few m = true) (y0 : (y == 0) = false) (hr : right m = false) :
    Calls Try.prog 10 #[.agg #[.int .u8 m.kind, .int .i64 m.ver, .int .u8 m.code, .int .u32 m.grp, .bool m.quiet, .int .u8 m.rob, .int .u8 m.every, .slice sa m.srcs.length sc, .slice ra m.recs.length rc], .int .i64 at0, .int .u8 y] w fun e w' => e = .returned (.bool true) ∧ Below w.heap.size w w' := by
  have FW := Lib.hid hf
  clear hf
  have HR := Lib.hid hr
  clear hr
  have S0 := Lib.hid hms
  clear hms
  have ha := bel1 w (.cells #[.int .u8 m.kind, .int .i64 m.ver, .int .u8 m.code, .int .u32 m.grp, .bool m.quiet, .int .u8 m.rob, .int .u8 m.every, .slice sa m.srcs.length sc, .slice ra m.recs.length rc] 27)
  have BB := Lib.hid ha
  have S0 := Lib.hid (S0.out.below ha)
  have M0 := Lib.hid (MB.new w (.int .u8 m.kind) (.int .i64 m.ver) (.int .u8 m.code) (.int .u32 m.grp) (.bool m.quiet) (.int .u8 m.rob) (.int .u8 m.every) (.slice sa m.srcs.length sc) (.slice ra m.recs.length rc))
  clear ha
  go_enter Try.func10, Try.ntmps10
  go_wp2_with fail
  refine (iShown _).mono ?_
  rintro e w1 ⟨rfl, hb⟩
  have BB := Lib.hid (BB.out.trans (hb.mono BB.out.size))
  have S0 := Lib.hid (S0.out.below hb)
  have M0 := Lib.hid (M0.out.below hb M0.out.lt)
  clear hb
  obtain ⟨M0c0, M0c1, M0c2, M0c3, M0c4, M0c5, M0c6, M0c7, M0c8, -⟩ := M0.out.cells
  go_wp2_with fail
  refine (rFew m sa ra sc rc _ S0.out).mono ?_
  rintro e w2 ⟨rfl, hb⟩
  rw [FW.out]
  have BB := Lib.hid (BB.out.trans (hb.mono BB.out.size))
  have S0 := Lib.hid (S0.out.below hb)
  have M0 := Lib.hid (M0.out.below hb M0.out.lt)
  clear hb
  obtain ⟨M0c0, M0c1, M0c2, M0c3, M0c4, M0c5, M0c6, M0c7, M0c8, -⟩ := M0.out.cells
  go_wp2_with fail
  refine (gEncode_no m sa ra sc rc _ S0.out HR.out).mono ?_
  rintro e w3 ⟨rfl, hb⟩
  have BB := Lib.hid (BB.out.trans (hb.mono BB.out.size))
  have S0 := Lib.hid (S0.out.below hb)
  have M0 := Lib.hid (M0.out.below hb M0.out.lt)
  clear hb
  go_wp2
  go_ret
  exact ⟨rfl, BB.out⟩
set_option maxRecDepth 100000 in
set_option maxHeartbeats 4000000 in
theorem walkB (w : World) (m : Msg) (sa : Option Addr) (sc : Nat) (ra : Option Addr) (rc : Nat) (hms : Ms w m sa ra)(at0 : Int) (hat : -9223372036854775808 ≤ at0 ∧ at0 ≤ 9223372036854775807) (y : Int) (hy : 0 ≤ y ∧ y ≤ 255) (hf : few m = true) (y0 : (y == 0) = false) (hr : right m = true) (a0 : at0 < 0) :
    Calls Try.prog 10 #[.agg #[.int .u8 m.kind, .int .i64 m.ver, .int .u8 m.code, .int .u32 m.grp, .bool m.quiet, .int .u8 m.rob, .int .u8 m.every, .slice sa m.srcs.length sc, .slice ra m.recs.length rc], .int .i64 at0, .int .u8 y] w fun e w' => e = .returned (.bool true) ∧ Below w.heap.size w w' := by
  obtain ⟨n, hn⟩ : ∃ n, (enc0 m).length = n := ⟨_, rfl⟩
  obtain ⟨n8, n9⟩ := right_len hr
  rw [hn] at n8 n9
  have HF := Lib.hid hms.fit
  have HI := Lib.hid (isB_encM hms.fit hr)
  have HL : Hid ((encM m).length = n) := Lib.hid (by rw [encM_len]; exact hn)
  have HO0 := Lib.hid (ofs_encM hms.fit hr)
  have FW := Lib.hid hf
  clear hf
  have HR := Lib.hid hr
  clear hr
  have HN := Lib.hid hn
  clear hn
  have S0 := Lib.hid hms
  clear hms
  have ha := bel1 w (.cells #[.int .u8 m.kind, .int .i64 m.ver, .int .u8 m.code, .int .u32 m.grp, .bool m.quiet, .int .u8 m.rob, .int .u8 m.every, .slice sa m.srcs.length sc, .slice ra m.recs.length rc] 27)
  have BB := Lib.hid ha
  have S0 := Lib.hid (S0.out.below ha)
  have M0 := Lib.hid (MB.new w (.int .u8 m.kind) (.int .i64 m.ver) (.int .u8 m.code) (.int .u32 m.grp) (.bool m.quiet) (.int .u8 m.rob) (.int .u8 m.every) (.slice sa m.srcs.length sc) (.slice ra m.recs.length rc))
  clear ha
  go_enter Try.func10, Try.ntmps10
  go_wp2_with fail
  refine (iShown _).mono ?_
  rintro e w1 ⟨rfl, hb⟩
  have BB := Lib.hid (BB.out.trans (hb.mono BB.out.size))
  have S0 := Lib.hid (S0.out.below hb)
  have M0 := Lib.hid (M0.out.below hb M0.out.lt)
  clear hb
  obtain ⟨M0c0, M0c1, M0c2, M0c3, M0c4, M0c5, M0c6, M0c7, M0c8, -⟩ := M0.out.cells
  go_wp2_with fail
  refine (rFew m sa ra sc rc _ S0.out).mono ?_
  rintro e w2 ⟨rfl, hb⟩
  rw [FW.out]
  have BB := Lib.hid (BB.out.trans (hb.mono BB.out.size))
  have S0 := Lib.hid (S0.out.below hb)
  have M0 := Lib.hid (M0.out.below hb M0.out.lt)
  clear hb
  obtain ⟨M0c0, M0c1, M0c2, M0c3, M0c4, M0c5, M0c6, M0c7, M0c8, -⟩ := M0.out.cells
  go_wp2_with fail
  refine (gEncode_ok m sa ra sc rc _ S0.out HF.out HR.out).mono ?_
  rintro e w3 ⟨gg, rfl, ho, hg, hb⟩
  rw [HN.out]
  have OG := Lib.hid ho
  have GG := Lib.hid (Nat.le_trans BB.out.size hg)
  have BB := Lib.hid (BB.out.trans (hb.mono BB.out.size))
  have S0 := Lib.hid (S0.out.below hb)
  have M0 := Lib.hid (M0.out.below hb M0.out.lt)
  clear hb
  clear ho hg
  go_wp2
  go_ret
  exact ⟨rfl, BB.out⟩
set_option maxRecDepth 100000 in
set_option maxHeartbeats 4000000 in
theorem walkA (w : World) (m : Msg) (sa : Option Addr) (sc : Nat) (ra : Option Addr) (rc : Nat) (hms : Ms w m sa ra)(k : Nat) (y : Int) (hy : 0 ≤ y ∧ y ≤ 255) (hf : few m = true) (y0 : (y == 0) = false) (hr : right m = true) (ka : ((enc0 m).length : Int) ≤ (k : Int)) :
    Calls Try.prog 10 #[.agg #[.int .u8 m.kind, .int .i64 m.ver, .int .u8 m.code, .int .u32 m.grp, .bool m.quiet, .int .u8 m.rob, .int .u8 m.every, .slice sa m.srcs.length sc, .slice ra m.recs.length rc], .int .i64 (k : Int), .int .u8 y] w fun e w' => e = .returned (.bool true) ∧ Below w.heap.size w w' := by
  obtain ⟨n, hn⟩ : ∃ n, (enc0 m).length = n := ⟨_, rfl⟩
  obtain ⟨n8, n9⟩ := right_len hr
  rw [hn] at n8 n9
  have HF := Lib.hid hms.fit
  have HI := Lib.hid (isB_encM hms.fit hr)
  have HL : Hid ((encM m).length = n) := Lib.hid (by rw [encM_len]; exact hn)
  have HO0 := Lib.hid (ofs_encM hms.fit hr)
  rw [hn] at ka
  have FW := Lib.hid hf
  clear hf
  have HR := Lib.hid hr
  clear hr
  have HN := Lib.hid hn
  clear hn
  have S0 := Lib.hid hms
  clear hms
  have ha := bel1 w (.cells #[.int .u8 m.kind, .int .i64 m.ver, .int .u8 m.code, .int .u32 m.grp, .bool m.quiet, .int .u8 m.rob, .int .u8 m.every, .slice sa m.srcs.length sc, .slice ra m.recs.length rc] 27)
  have BB := Lib.hid ha
  have S0 := Lib.hid (S0.out.below ha)
  have M0 := Lib.hid (MB.new w (.int .u8 m.kind) (.int .i64 m.ver) (.int .u8 m.code) (.int .u32 m.grp) (.bool m.quiet) (.int .u8 m.rob) (.int .u8 m.every) (.slice sa m.srcs.length sc) (.slice ra m.recs.length rc))
  clear ha
  go_enter Try.func10, Try.ntmps10
  go_wp2_with fail
  refine (iShown _).mono ?_
  rintro e w1 ⟨rfl, hb⟩
  have BB := Lib.hid (BB.out.trans (hb.mono BB.out.size))
  have S0 := Lib.hid (S0.out.below hb)
  have M0 := Lib.hid (M0.out.below hb M0.out.lt)
  clear hb
  obtain ⟨M0c0, M0c1, M0c2, M0c3, M0c4, M0c5, M0c6, M0c7, M0c8, -⟩ := M0.out.cells
  go_wp2_with fail
  refine (rFew m sa ra sc rc _ S0.out).mono ?_
  rintro e w2 ⟨rfl, hb⟩
  rw [FW.out]
  have BB := Lib.hid (BB.out.trans (hb.mono BB.out.size))
  have S0 := Lib.hid (S0.out.below hb)
  have M0 := Lib.hid (M0.out.below hb M0.out.lt)
  clear hb
  obtain ⟨M0c0, M0c1, M0c2, M0c3, M0c4, M0c5, M0c6, M0c7, M0c8, -⟩ := M0.out.cells
  go_wp2_with fail
  refine (gEncode_ok m sa ra sc rc _ S0.out HF.out HR.out).mono ?_
  rintro e w3 ⟨gg, rfl, ho, hg, hb⟩
  rw [HN.out]
  have OG := Lib.hid ho
  have GG := Lib.hid (Nat.le_trans BB.out.size hg)
  have BB := Lib.hid (BB.out.trans (hb.mono BB.out.size))
  have S0 := Lib.hid (S0.out.below hb)
  have M0 := Lib.hid (M0.out.below hb M0.out.lt)
  clear hb
  clear ho hg
  go_wp2
  go_ret
  exact ⟨rfl, BB.out⟩
set_option maxRecDepth 100000 in
set_option maxHeartbeats 4000000 in
theorem walkR (w : World) (m : Msg) (sa : Option Addr) (sc : Nat) (ra : Option Addr) (rc : Nat) (hms : Ms w m sa ra)(k : Nat) (y : Int) (hy : 0 ≤ y ∧ y ≤ 255) (hf : few m = true) (y0 : (y == 0) = false) (hr : right m = true) (ka : (k : Int) < ((enc0 m).length : Int)) :
    Calls Try.prog 10 #[.agg #[.int .u8 m.kind, .int .i64 m.ver, .int .u8 m.code, .int .u32 m.grp, .bool m.quiet, .int .u8 m.rob, .int .u8 m.every, .slice sa m.srcs.length sc, .slice ra m.recs.length rc], .int .i64 (k : Int), .int .u8 y] w fun e w' => e = .returned (.bool true) ∧ Below w.heap.size w w' := by
  obtain ⟨n, hn⟩ : ∃ n, (enc0 m).length = n := ⟨_, rfl⟩
  obtain ⟨n8, n9⟩ := right_len hr
  rw [hn] at n8 n9
  have HF := Lib.hid hms.fit
  have HI := Lib.hid (isB_encM hms.fit hr)
  have HL : Hid ((encM m).length = n) := Lib.hid (by rw [encM_len]; exact hn)
  have HO0 := Lib.hid (ofs_encM hms.fit hr)
  rw [hn] at ka
  have hkl : k < (encM m).length := by rw [HL.out]; omega
  have HX := xor8_other (HI.out k hkl) hy (by rw [beq_eq_false_iff_ne] at y0; exact y0)
  have IS := Lib.hid (isB_set HI.out k HX.2.1 HX.2.2)
  have D4 := Lib.hid (dec_off (by rw [List.length_set]; have := HL.out; omega) (other HI.out hkl HX.1 HX.2.1 HX.2.2 HO0.out))
  clear HX hkl
  have FW := Lib.hid hf
  clear hf
  have HR := Lib.hid hr
  clear hr
  have HN := Lib.hid hn
  clear hn
  have S0 := Lib.hid hms
  clear hms
  have ha := bel1 w (.cells #[.int .u8 m.kind, .int .i64 m.ver, .int .u8 m.code, .int .u32 m.grp, .bool m.quiet, .int .u8 m.rob, .int .u8 m.every, .slice sa m.srcs.length sc, .slice ra m.recs.length rc] 27)
  have BB := Lib.hid ha
  have S0 := Lib.hid (S0.out.below ha)
  have M0 := Lib.hid (MB.new w (.int .u8 m.kind) (.int .i64 m.ver) (.int .u8 m.code) (.int .u32 m.grp) (.bool m.quiet) (.int .u8 m.rob) (.int .u8 m.every) (.slice sa m.srcs.length sc) (.slice ra m.recs.length rc))
  clear ha
  go_enter Try.func10, Try.ntmps10
  go_wp2_with fail
  refine (iShown _).mono ?_
  rintro e w1 ⟨rfl, hb⟩
  have BB := Lib.hid (BB.out.trans (hb.mono BB.out.size))
  have S0 := Lib.hid (S0.out.below hb)
  have M0 := Lib.hid (M0.out.below hb M0.out.lt)
  clear hb
  obtain ⟨M0c0, M0c1, M0c2, M0c3, M0c4, M0c5, M0c6, M0c7, M0c8, -⟩ := M0.out.cells
  go_wp2_with fail
  refine (rFew m sa ra sc rc _ S0.out).mono ?_
  rintro e w2 ⟨rfl, hb⟩
  rw [FW.out]
  have BB := Lib.hid (BB.out.trans (hb.mono BB.out.size))
  have S0 := Lib.hid (S0.out.below hb)
  have M0 := Lib.hid (M0.out.below hb M0.out.lt)
  clear hb
  obtain ⟨M0c0, M0c1, M0c2, M0c3, M0c4, M0c5, M0c6, M0c7, M0c8, -⟩ := M0.out.cells
  go_wp2_with fail
  refine (gEncode_ok m sa ra sc rc _ S0.out HF.out HR.out).mono ?_
  rintro e w3 ⟨gg, rfl, ho, hg, hb⟩
  rw [HN.out]
  have OG := Lib.hid ho
  have GG := Lib.hid (Nat.le_trans BB.out.size hg)
  have BB := Lib.hid (BB.out.trans (hb.mono BB.out.size))
  have S0 := Lib.hid (S0.out.below hb)
  have M0 := Lib.hid (M0.out.below hb M0.out.lt)
  clear hb
  clear ho hg
  have cK := OG.out.cell (k := k) (by rw [HL.out]; omega)
  have fK := OG.out.frozen k
  have BB := Lib.hid (BB.out.setCell (p := ⟨gg, k, none⟩) GG.out (.int .u8 (bits .xor .u8 ((encM m).getD k 0) y)))
  have OS := Lib.hid (OG.out.set k (bits .xor .u8 ((encM m).getD k 0) y) (by rw [HL.out]; omega))
  go_wp2_with fail
  refine (gDecode (some ⟨gg, 0, none⟩) n n ((encM m).set k (bits .xor .u8 ((encM m).getD k 0) y)) _ (by rw [List.length_set]; exact HL.out) (by omega) (Nat.le_refl _) (OS.out.bs IS.out)).mono ?_
  rintro e w4 ⟨sb, sd, rb, rd, rfl, hms, hb⟩
  rw [dec_not (by rw [D4.out]; omega)] at hms
  rw [dec_not (by rw [D4.out]; omega), D4.out]
  have BB := Lib.hid (BB.out.trans (hb.mono BB.out.size))
  have S1 := Lib.hid (hms)
  clear hb
  clear hms
  have ha := bel1 w4 (.cells #[.int .u8 m0.kind, .int .i64 m0.ver, .int .u8 m0.code, .int .u32 m0.grp, .bool m0.quiet, .int .u8 m0.rob, .int .u8 m0.every, .slice sb m0.srcs.length sd, .slice rb m0.recs.length rd] 27)
  have BB := Lib.hid (BB.out.trans (ha.mono BB.out.size))
  have S1 := Lib.hid (S1.out.below ha)
  have M1 := Lib.hid (MB.new w4 (.int .u8 m0.kind) (.int .i64 m0.ver) (.int .u8 m0.code) (.int .u32 m0.grp) (.bool m0.quiet) (.int .u8 m0.rob) (.int .u8 m0.every) (.slice sb m0.srcs.length sd) (.slice rb m0.recs.length rd))
  clear ha
  obtain ⟨M1c0, M1c1, M1c2, M1c3, M1c4, M1c5, M1c6, M1c7, M1c8, -⟩ := M1.out.cells
  go_wp2_with fail
  refine (rSameM m0 m0 sb rb none none sd rd 0 0 _ S1.out (ms0 _)).mono ?_
  rintro e w5 ⟨rfl, hb⟩
  rw [(sameM_iff m0 m0).2 rfl]
  have BB := Lib.hid (BB.out.trans (hb.mono BB.out.size))
  have S1 := Lib.hid (S1.out.below hb)
  have M1 := Lib.hid (M1.out.below hb M1.out.lt)
  clear hb
  go_wp2
  go_ret
  exact ⟨rfl, BB.out⟩
theorem walk (w : World) (m : Msg) (sa : Option Addr) (sc : Nat) (ra : Option Addr) (rc : Nat) (hms : Ms w m sa ra)(at0 : Int) (hat : -9223372036854775808 ≤ at0 ∧ at0 ≤ 9223372036854775807) (y : Int) (hy : 0 ≤ y ∧ y ≤ 255) :
    Calls Try.prog 10 #[.agg #[.int .u8 m.kind, .int .i64 m.ver, .int .u8 m.code, .int .u32 m.grp, .bool m.quiet, .int .u8 m.rob, .int .u8 m.every, .slice sa m.srcs.length sc, .slice ra m.recs.length rc], .int .i64 at0, .int .u8 y] w fun e w' => e = .returned (.bool true) ∧ Below w.heap.size w w' := by
  cases hf : few m with
  | false => exact walkF w m sa sc ra rc hms at0 hat y hy hf
  | true =>
    by_cases hy0 : y = 0
    · subst hy0
      exact walkZ w m sa sc ra rc hms at0 hat hf
    have y0 : (y == 0) = false := by rw [beq_eq_false_iff_ne]; exact hy0
    cases hr : right m with
    | false => exact walkN w m sa sc ra rc hms at0 hat y hy hf y0 hr
    | true =>
      by_cases a0 : at0 < 0
      · exact walkB w m sa sc ra rc hms at0 hat y hy hf y0 hr a0
      obtain ⟨k, rfl⟩ := Int.eq_ofNat_of_zero_le (a := at0) (by omega)
      by_cases ka : (k : Int) < ((enc0 m).length : Int)
      · exact walkR w m sa sc ra rc hms k y hy hf y0 hr ka
      · exact walkA w m sa sc ra rc hms k y hy hf y0 hr (by omega)

theorem contract (H : Type) (enc : TypeId × Value → H) (W : World) (base : Nat) (args : Array Value) (ds gs : List (DataW H)) (before : List MemPlace)
    (hval : ∀ (j : Nat) t v, Try.f10.params[j]? = some t → args[j]? = some v → Value.okWide Try.prog W .any base t v)
    (hW : DataW.Whole enc Try.prog Try.f10.params.toList Rows.igmpOneOffSpec.vars false W args.toList ds gs before) (hsz : (DataW.weightsEach Try.prog (Try.f10.params.toList ++ Rows.igmpOneOffSpec.plain.varTypes Try.prog) (ds ++ gs)).all (· ≤ reachBytes) = true) :
    Calls Try.prog 10 args W fun e W' => ∃ v, e = .returned v ∧ Rows.igmpOneOffSpec.post enc Try.prog Try.f10 false true false false W args v W' := by
  have hW' := hW
  obtain ⟨p, q, hA0, hV, rfl, hfz, hnd⟩ := hW
  have hA : DataW.TrodAll enc Try.prog W 0 (fun _ => true) true Try.f10.params.toList args.toList ds p := hA0
  rw [Try.params10] at hA hval
  obtain ⟨v0, vs0, d0, ds0, p0, q0, hargs, rfl, rfl, h0, r0⟩ := trodAll_cons hA
  obtain ⟨v1, vs1, d1, ds1, p1, q1, rfl, rfl, rfl, h1, r1⟩ := trodAll_cons r0
  obtain ⟨v2, vs2, d2, ds2, p2, q2, rfl, rfl, rfl, h2, r2⟩ := trodAll_cons r1
  obtain ⟨rfl, rfl, rfl⟩ := trodAll_nil r2
  obtain rfl : args = #[v0, v1, v2] := by cases args; simp_all
  obtain ⟨rfl, rfl⟩ := trodVars_none hV
  have k0 := h0
  have lt0 : ∀ x ∈ p0, x.block < W.heap.size := by obtain ⟨m, hm⟩ := k0; exact DataW.trod_lt m _ _ _ hm
  have k1 := h1
  have lt1 : ∀ x ∈ p1, x.block < W.heap.size := by obtain ⟨m, hm⟩ := k1; exact DataW.trod_lt m _ _ _ hm
  have k2 := h2
  have lt2 : ∀ x ∈ p2, x.block < W.heap.size := by obtain ⟨m, hm⟩ := k2; exact DataW.trod_lt m _ _ _ hm
  obtain ⟨m0, sa0, sc0, ra0, rc0, rfl, ms0⟩ := open_msg (hval 0 27 v0 rfl rfl) h0 (fun x hx => by simpa using List.all_eq_true.1 hsz _ (DataW.weights_mem_each (j := 0) rfl rfl x hx))
  obtain ⟨a1, rfl, rfl, rfl, w1⟩ := open_int Try.underlying3 (hval 1 3 v1 rfl rfl) h1
  obtain ⟨a2, rfl, rfl, rfl, w2⟩ := open_int Try.underlying5 (hval 2 5 v2 rfl rfl) h2
  clear hA0
  refine (walk W m0 sa0 sc0 ra0 rc0 ms0 a1 (bounds_i64 w1) a2 (bounds_u8 w2)).mono fun e W' ⟨he, bel⟩ => ?_
  subst he
  exact ⟨_, rfl, _, _, _, [], _, [], hW', trodAll_mk1 (shut_bool Try.underlying4 _), (trodAll_cons_mk (Below.trod laidOut (by kernel_rfl) (of_decide_eq_true (by kernel_rfl)) k0 bel lt0) (trodAll_cons_mk (Below.trod laidOut (by kernel_rfl) (of_decide_eq_true (by kernel_rfl)) k1 bel lt1) (trodAll_cons_mk (Below.trod laidOut (by kernel_rfl) (of_decide_eq_true (by kernel_rfl)) k2 bel lt2) trodAll_mk0))), rfl, bel.frame _, fun h => by cases h⟩

set_option maxRecDepth 100000 in
theorem lifted (os : Os) (started : os.Started) (H : Type) (enc : TypeId × Value → H) :
    ReturnsInHanded {} Try.checked os 10 .any (Rows.igmpOneOffSpec.pre6 enc Try.prog Try.f10 Rows.igmpOneOffRow.domain false) (Rows.igmpOneOffSpec.post enc Try.prog Try.f10 false true false false) := by
  refine returnsInHanded_of_change_sized (C := Try.checked) own started (by kernel_rfl) Try.func10
    (ChangeSpec.witness6 (enc := enc) (C := Try.checked) false ⟨#[], #[(.agg #[.int .u8 0, .int .i64 0, .int .u8 0, .int .u32 0, .bool false, .int .u8 0, .int .u8 0, .slice none 0 0, .slice none 0 0]), (.int .i64 0), (.int .u8 0)], []⟩ 8 (by kernel_rfl) (by kernel_rfl) (by kernel_rfl) (by kernel_rfl)) ?_
  intro W base args ds gs before hval hW hcnd hsz _
  exact contract H enc W base args ds gs before hval hW hsz
theorem said : Rows.IgmpOneOffSaid :=
  OpenClaim.holds_of_wide 10 Try.f10 rfl rfl rfl rfl rfl rfl rfl ⟨rfl, rfl, rfl, rfl, rfl⟩ rfl rfl rfl rfl rfl (by kernel_rfl) Try.func10 (by kernel_rfl)
    (of_decide_eq_true (by kernel_rfl)) (by unfold Func.isWrapper; first | (rw [if_pos (by decide +kernel)]; kernel_rfl) | (rw [if_neg (by decide +kernel)]; exact ⟨rfl, rfl⟩))
    (fun os started H enc _ => lifted os started H enc)
#print axioms said
end Go.Proofs.Ytmcnanoamgkljaa.igmpOneOff
