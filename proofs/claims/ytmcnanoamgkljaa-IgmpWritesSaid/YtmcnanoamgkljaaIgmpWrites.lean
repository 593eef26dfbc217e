/- The law IgmpWrites: every call returns true, and its arguments read behind the call as before it. Condition: none but the row's own. -/
import Derived.Test.YtmcnanoamgkljaaQ12
namespace Go.Proofs.Ytmcnanoamgkljaa.igmpWrites
set_option linter.unusedVariables false
open Go.ChangeShapes Go.WideShapes Go.ChangeAt Go.RowKit
open Go.ChangeMaps (open_string shut_string)

theorem bsN (w : World) (a : Option Addr) : Bs w a [] := ⟨.inl rfl, fun k h => absurd h (by simp)⟩
set_option maxRecDepth 100000 in
set_option maxHeartbeats 4000000 in
theorem walkF (w : World) (m : Msg) (sa : Option Addr) (sc : Nat) (ra : Option Addr) (rc : Nat) (hms : Ms w m sa ra) (y : Msg) (sb : Option Addr) (sd : Nat) (rb : Option Addr) (rd : Nat) (hmy : Ms w y sb rb) (hf : few m = false) :
    Calls Try.prog 3 #[.agg #[.int .u8 m.kind, .int .i64 m.ver, .int .u8 m.code, .int .u32 m.grp, .bool m.quiet, .int .u8 m.rob, .int .u8 m.every, .slice sa m.srcs.length sc, .slice ra m.recs.length rc], .agg #[.int .u8 y.kind, .int .i64 y.ver, .int .u8 y.code, .int .u32 y.grp, .bool y.quiet, .int .u8 y.rob, .int .u8 y.every, .slice sb y.srcs.length sd, .slice rb y.recs.length rd]] w fun e w' => e = .returned (.bool true) ∧ Below w.heap.size w w' := by
  have FW := Lib.hid hf
  clear hf
  have S0 := Lib.hid hms
  have S1 := Lib.hid hmy
  clear hms hmy
  have ha := bel1 w (.cells #[.int .u8 m.kind, .int .i64 m.ver, .int .u8 m.code, .int .u32 m.grp, .bool m.quiet, .int .u8 m.rob, .int .u8 m.every, .slice sa m.srcs.length sc, .slice ra m.recs.length rc] 27)
  have BB := Lib.hid ha
  have S0 := Lib.hid (S0.out.below ha)
  have S1 := Lib.hid (S1.out.below ha)
  have M0 := Lib.hid (MB.new w (.int .u8 m.kind) (.int .i64 m.ver) (.int .u8 m.code) (.int .u32 m.grp) (.bool m.quiet) (.int .u8 m.rob) (.int .u8 m.every) (.slice sa m.srcs.length sc) (.slice ra m.recs.length rc))
  clear ha
  obtain ⟨W, hW⟩ : ∃ W, w.alloc (.cells #[.int .u8 m.kind, .int .i64 m.ver, .int .u8 m.code, .int .u32 m.grp, .bool m.quiet, .int .u8 m.rob, .int .u8 m.every, .slice sa m.srcs.length sc, .slice ra m.recs.length rc] 27) = W := ⟨_, rfl⟩
  have hZ : W.heap.size = w.heap.size + 1 := by rw [← hW]; simp
  rw [hW] at BB S0 S1 M0
  have ha := bel1 W (.cells #[.int .u8 y.kind, .int .i64 y.ver, .int .u8 y.code, .int .u32 y.grp, .bool y.quiet, .int .u8 y.rob, .int .u8 y.every, .slice sb y.srcs.length sd, .slice rb y.recs.length rd] 27)
  have BB := Lib.hid (BB.out.trans (ha.mono BB.out.size))
  have S0 := Lib.hid (S0.out.below ha)
  have S1 := Lib.hid (S1.out.below ha)
  have M0 := Lib.hid (M0.out.below ha M0.out.lt)
  have M1 := Lib.hid (MB.new W (.int .u8 y.kind) (.int .i64 y.ver) (.int .u8 y.code) (.int .u32 y.grp) (.bool y.quiet) (.int .u8 y.rob) (.int .u8 y.every) (.slice sb y.srcs.length sd) (.slice rb y.recs.length rd))
  clear ha
  subst hW
  rw [hZ] at M1
  clear hZ
  go_enter Try.func3, Try.ntmps3
  go_wp2_with fail
  refine (iShown _).mono ?_
  rintro e w1 ⟨rfl, hb⟩
  have BB := Lib.hid (BB.out.trans (hb.mono BB.out.size))
  have S0 := Lib.hid (S0.out.below hb)
  have S1 := Lib.hid (S1.out.below hb)
  have M0 := Lib.hid (M0.out.below hb M0.out.lt)
  have M1 := Lib.hid (M1.out.below hb M1.out.lt)
  clear hb
  obtain ⟨M0c0, M0c1, M0c2, M0c3, M0c4, M0c5, M0c6, M0c7, M0c8, -⟩ := M0.out.cells
  obtain ⟨M1c0, M1c1, M1c2, M1c3, M1c4, M1c5, M1c6, M1c7, M1c8, -⟩ := M1.out.cells
  go_wp2_with fail
  refine (rFew m sa ra sc rc _ S0.out).mono ?_
  rintro e w2 ⟨rfl, hb⟩
  rw [FW.out]
  have BB := Lib.hid (BB.out.trans (hb.mono BB.out.size))
  have S0 := Lib.hid (S0.out.below hb)
  have S1 := Lib.hid (S1.out.below hb)
  have M0 := Lib.hid (M0.out.below hb M0.out.lt)
  have M1 := Lib.hid (M1.out.below hb M1.out.lt)
  clear hb
  go_wp2
  go_ret
  exact ⟨rfl, BB.out⟩
set_option maxRecDepth 100000 in
set_option maxHeartbeats 4000000 in
theorem walkG (w : World) (m : Msg) (sa : Option Addr) (sc : Nat) (ra : Option Addr) (rc : Nat) (hms : Ms w m sa ra) (y : Msg) (sb : Option Addr) (sd : Nat) (rb : Option Addr) (rd : Nat) (hmy : Ms w y sb rb) (hf : few m = true) (hy : few y = false) :
    Calls Try.prog 3 #[.agg #[.int .u8 m.kind, .int .i64 m.ver, .int .u8 m.code, .int .u32 m.grp, .bool m.quiet, .int .u8 m.rob, .int .u8 m.every, .slice sa m.srcs.length sc, .slice ra m.recs.length rc], .agg #[.int .u8 y.kind, .int .i64 y.ver, .int .u8 y.code, .int .u32 y.grp, .bool y.quiet, .int .u8 y.rob, .int .u8 y.every, .slice sb y.srcs.length sd, .slice rb y.recs.length rd]] w fun e w' => e = .returned (.bool true) ∧ Below w.heap.size w w' := by
  have FW := Lib.hid hf
  clear hf
  have FY := Lib.hid hy
  clear hy
  have S0 := Lib.hid hms
  have S1 := Lib.hid hmy
  clear hms hmy
  have ha := bel1 w (.cells #[.int .u8 m.kind, .int .i64 m.ver, .int .u8 m.code, .int .u32 m.grp, .bool m.quiet, .int .u8 m.rob, .int .u8 m.every, .slice sa m.srcs.length sc, .slice ra m.recs.length rc] 27)
  have BB := Lib.hid ha
  have S0 := Lib.hid (S0.out.below ha)
  have S1 := Lib.hid (S1.out.below ha)
  have M0 := Lib.hid (MB.new w (.int .u8 m.kind) (.int .i64 m.ver) (.int .u8 m.code) (.int .u32 m.grp) (.bool m.quiet) (.int .u8 m.rob) (.int .u8 m.every) (.slice sa m.srcs.length sc) (.slice ra m.recs.length rc))
  clear ha
  obtain ⟨W, hW⟩ : ∃ W, w.alloc (.cells #[.int .u8 m.kind, .int .i64 m.ver, .int .u8 m.code, .int .u32 m.grp, .bool m.quiet, .int .u8 m.rob, .int .u8 m.every, .slice sa m.srcs.length sc, .slice ra m.recs.length rc] 27) = W := ⟨_, rfl⟩
  have hZ : W.heap.size = w.heap.size + 1 := by rw [← hW]; simp
  rw [hW] at BB S0 S1 M0
  have ha := bel1 W (.cells #[.int .u8 y.kind, .int .i64 y.ver, .int .u8 y.code, .int .u32 y.grp, .bool y.quiet, .int .u8 y.rob, .int .u8 y.every, .slice sb y.srcs.length sd, .slice rb y.recs.length rd] 27)
  have BB := Lib.hid (BB.out.trans (ha.mono BB.out.size))
  have S0 := Lib.hid (S0.out.below ha)
  have S1 := Lib.hid (S1.out.below ha)
  have M0 := Lib.hid (M0.out.below ha M0.out.lt)
  have M1 := Lib.hid (MB.new W (.int .u8 y.kind) (.int .i64 y.ver) (.int .u8 y.code) (.int .u32 y.grp) (.bool y.quiet) (.int .u8 y.rob) (.int .u8 y.every) (.slice sb y.srcs.length sd) (.slice rb y.recs.length rd))
  clear ha
  subst hW
  rw [hZ] at M1
  clear hZ
  go_enter Try.func3, Try.ntmps3
  go_wp2_with fail
  refine (iShown _).mono ?_
  rintro e w1 ⟨rfl, hb⟩
  have BB := Lib.hid (BB.out.trans (hb.mono BB.out.size))
  have S0 := Lib.hid (S0.out.below hb)
  have S1 := Lib.hid (S1.out.below hb)
  have M0 := Lib.hid (M0.out.below hb M0.out.lt)
  have M1 := Lib.hid (M1.out.below hb M1.out.lt)
  clear hb
  obtain ⟨M0c0, M0c1, M0c2, M0c3, M0c4, M0c5, M0c6, M0c7, M0c8, -⟩ := M0.out.cells
  obtain ⟨M1c0, M1c1, M1c2, M1c3, M1c4, M1c5, M1c6, M1c7, M1c8, -⟩ := M1.out.cells
  go_wp2_with fail
  refine (rFew m sa ra sc rc _ S0.out).mono ?_
  rintro e w2 ⟨rfl, hb⟩
  rw [FW.out]
  have BB := Lib.hid (BB.out.trans (hb.mono BB.out.size))
  have S0 := Lib.hid (S0.out.below hb)
  have S1 := Lib.hid (S1.out.below hb)
  have M0 := Lib.hid (M0.out.below hb M0.out.lt)
  have M1 := Lib.hid (M1.out.below hb M1.out.lt)
  clear hb
  obtain ⟨M0c0, M0c1, M0c2, M0c3, M0c4, M0c5, M0c6, M0c7, M0c8, -⟩ := M0.out.cells
  obtain ⟨M1c0, M1c1, M1c2, M1c3, M1c4, M1c5, M1c6, M1c7, M1c8, -⟩ := M1.out.cells
  go_wp2_with fail
  refine (rFew y sb rb sd rd _ S1.out).mono ?_
  rintro e w3 ⟨rfl, hb⟩
  rw [FY.out]
  have BB := Lib.hid (BB.out.trans (hb.mono BB.out.size))
  have S0 := Lib.hid (S0.out.below hb)
  have S1 := Lib.hid (S1.out.below hb)
  have M0 := Lib.hid (M0.out.below hb M0.out.lt)
  have M1 := Lib.hid (M1.out.below hb M1.out.lt)
  clear hb
  go_wp2
  go_ret
  exact ⟨rfl, BB.out⟩
set_option maxRecDepth 100000 in
set_option maxHeartbeats 4000000 in
theorem walkN (w : World) (m : Msg) (sa : Option Addr) (sc : Nat) (ra : Option Addr) (rc : Nat) (hms : Ms w m sa ra) (y : Msg) (sb : Option Addr) (sd : Nat) (rb : Option Addr) (rd : Nat) (hmy : Ms w y sb rb) (hf : few m = true) (hy : few y = true) (hr : right m = false) :
    Calls Try.prog 3 #[.agg #[.int .u8 m.kind, .int .i64 m.ver, .int .u8 m.code, .int .u32 m.grp, .bool m.quiet, .int .u8 m.rob, .int .u8 m.every, .slice sa m.srcs.length sc, .slice ra m.recs.length rc], .agg #[.int .u8 y.kind, .int .i64 y.ver, .int .u8 y.code, .int .u32 y.grp, .bool y.quiet, .int .u8 y.rob, .int .u8 y.every, .slice sb y.srcs.length sd, .slice rb y.recs.length rd]] w fun e w' => e = .returned (.bool true) ∧ Below w.heap.size w w' := by
  obtain ⟨Z, hZ⟩ : ∃ Z, sameM m y = Z := ⟨_, rfl⟩
  have FW := Lib.hid hf
  clear hf
  have FY := Lib.hid hy
  clear hy
  have HR := Lib.hid hr
  clear hr
  have HZ := Lib.hid hZ
  clear hZ
  have S0 := Lib.hid hms
  have S1 := Lib.hid hmy
  clear hms hmy
  have ha := bel1 w (.cells #[.int .u8 m.kind, .int .i64 m.ver, .int .u8 m.code, .int .u32 m.grp, .bool m.quiet, .int .u8 m.rob, .int .u8 m.every, .slice sa m.srcs.length sc, .slice ra m.recs.length rc] 27)
  have BB := Lib.hid ha
  have S0 := Lib.hid (S0.out.below ha)
  have S1 := Lib.hid (S1.out.below ha)
  have M0 := Lib.hid (MB.new w (.int .u8 m.kind) (.int .i64 m.ver) (.int .u8 m.code) (.int .u32 m.grp) (.bool m.quiet) (.int .u8 m.rob) (.int .u8 m.every) (.slice sa m.srcs.length sc) (.slice ra m.recs.length rc))
  clear ha
  obtain ⟨W, hW⟩ : ∃ W, w.alloc (.cells #[.int .u8 m.kind, .int .i64 m.ver, .int .u8 m.code, .int .u32 m.grp, .bool m.quiet, .int .u8 m.rob, .int .u8 m.every, .slice sa m.srcs.length sc, .slice ra m.recs.length rc] 27) = W := ⟨_, rfl⟩
  have hZ : W.heap.size = w.heap.size + 1 := by rw [← hW]; simp
  rw [hW] at BB S0 S1 M0
  have ha := bel1 W (.cells #[.int .u8 y.kind, .int .i64 y.ver, .int .u8 y.code, .int .u32 y.grp, .bool y.quiet, .int .u8 y.rob, .int .u8 y.every, .slice sb y.srcs.length sd, .slice rb y.recs.length rd] 27)
  have BB := Lib.hid (BB.out.trans (ha.mono BB.out.size))
  have S0 := Lib.hid (S0.out.below ha)
  have S1 := Lib.hid (S1.out.below ha)
  have M0 := Lib.hid (M0.out.below ha M0.out.lt)
  have M1 := Lib.hid (MB.new W (.int .u8 y.kind) (.int .i64 y.ver) (.int .u8 y.code) (.int .u32 y.grp) (.bool y.quiet) (.int .u8 y.rob) (.int .u8 y.every) (.slice sb y.srcs.length sd) (.slice rb y.recs.length rd))
  clear ha
  subst hW
  rw [hZ] at M1
  clear hZ
  go_enter Try.func3, Try.ntmps3
  go_wp2_with fail
  refine (iShown _).mono ?_
  rintro e w1 ⟨rfl, hb⟩
  have BB := Lib.hid (BB.out.trans (hb.mono BB.out.size))
  have S0 := Lib.hid (S0.out.below hb)
  have S1 := Lib.hid (S1.out.below hb)
  have M0 := Lib.hid (M0.out.below hb M0.out.lt)
  have M1 := Lib.hid (M1.out.below hb M1.out.lt)
  clear hb
  obtain ⟨M0c0, M0c1, M0c2, M0c3, M0c4, M0c5, M0c6, M0c7, M0c8, -⟩ := M0.out.cells
  obtain ⟨M1c0, M1c1, M1c2, M1c3, M1c4, M1c5, M1c6, M1c7, M1c8, -⟩ := M1.out.cells
  go_wp2_with fail
  refine (rFew m sa ra sc rc _ S0.out).mono ?_
  rintro e w2 ⟨rfl, hb⟩
  rw [FW.out]
  have BB := Lib.hid (BB.out.trans (hb.mono BB.out.size))
  have S0 := Lib.hid (S0.out.below hb)
  have S1 := Lib.hid (S1.out.below hb)
  have M0 := Lib.hid (M0.out.below hb M0.out.lt)
  have M1 := Lib.hid (M1.out.below hb M1.out.lt)
  clear hb
  obtain ⟨M0c0, M0c1, M0c2, M0c3, M0c4, M0c5, M0c6, M0c7, M0c8, -⟩ := M0.out.cells
  obtain ⟨M1c0, M1c1, M1c2, M1c3, M1c4, M1c5, M1c6, M1c7, M1c8, -⟩ := M1.out.cells
  go_wp2_with fail
  refine (rFew y sb rb sd rd _ S1.out).mono ?_
  rintro e w3 ⟨rfl, hb⟩
  rw [FY.out]
  have BB := Lib.hid (BB.out.trans (hb.mono BB.out.size))
  have S0 := Lib.hid (S0.out.below hb)
  have S1 := Lib.hid (S1.out.below hb)
  have M0 := Lib.hid (M0.out.below hb M0.out.lt)
  have M1 := Lib.hid (M1.out.below hb M1.out.lt)
  clear hb
  obtain ⟨M0c0, M0c1, M0c2, M0c3, M0c4, M0c5, M0c6, M0c7, M0c8, -⟩ := M0.out.cells
  obtain ⟨M1c0, M1c1, M1c2, M1c3, M1c4, M1c5, M1c6, M1c7, M1c8, -⟩ := M1.out.cells
  go_wp2_with fail
  refine (gEncode_no m sa ra sc rc _ S0.out HR.out).mono ?_
  rintro e w4 ⟨rfl, hb⟩
  have BB := Lib.hid (BB.out.trans (hb.mono BB.out.size))
  have S0 := Lib.hid (S0.out.below hb)
  have S1 := Lib.hid (S1.out.below hb)
  have M0 := Lib.hid (M0.out.below hb M0.out.lt)
  have M1 := Lib.hid (M1.out.below hb M1.out.lt)
  clear hb
  obtain ⟨M0c0, M0c1, M0c2, M0c3, M0c4, M0c5, M0c6, M0c7, M0c8, -⟩ := M0.out.cells
  obtain ⟨M1c0, M1c1, M1c2, M1c3, M1c4, M1c5, M1c6, M1c7, M1c8, -⟩ := M1.out.cells
  go_wp2_with fail
  refine (rEncode_no m sa ra sc rc _ S0.out HR.out).mono ?_
  rintro e w5 ⟨rfl, hb⟩
  have BB := Lib.hid (BB.out.trans (hb.mono BB.out.size))
  have S0 := Lib.hid (S0.out.below hb)
  have S1 := Lib.hid (S1.out.below hb)
  have M0 := Lib.hid (M0.out.below hb M0.out.lt)
  have M1 := Lib.hid (M1.out.below hb M1.out.lt)
  clear hb
  go_upto_region 6 with fail
  obtain ⟨M0c0, M0c1, M0c2, M0c3, M0c4, M0c5, M0c6, M0c7, M0c8, -⟩ := M0.out.cells
  obtain ⟨M1c0, M1c1, M1c2, M1c3, M1c4, M1c5, M1c6, M1c7, M1c8, -⟩ := M1.out.cells
  obtain ⟨W0, hW0⟩ : ∃ W0, W0 = w5 := ⟨_, rfl⟩
  rw [← hW0] at BB S0 S1 M0 M1 M0c0 M0c1 M0c2 M0c3 M0c4 M0c5 M0c6 M0c7 M0c8 M1c0 M1c1 M1c2 M1c3 M1c4 M1c5 M1c6 M1c7 M1c8
  rw [← hW0]
  clear hW0
  have BR := Lib.hid (Below.refl W0.heap.size W0)
  have KS : Hid (∀ w' : World, Below W0.heap.size W0 w' → w'.cell? ⟨w.heap.size, 0, none⟩ = some (.int .u8 m.kind) ∧ w'.cell? ⟨w.heap.size, 1, none⟩ = some (.int .i64 m.ver) ∧ w'.cell? ⟨w.heap.size, 2, none⟩ = some (.int .u8 m.code) ∧ w'.cell? ⟨w.heap.size, 3, none⟩ = some (.int .u32 m.grp) ∧ w'.cell? ⟨w.heap.size, 4, none⟩ = some (.bool m.quiet) ∧ w'.cell? ⟨w.heap.size, 5, none⟩ = some (.int .u8 m.rob) ∧ w'.cell? ⟨w.heap.size, 6, none⟩ = some (.int .u8 m.every) ∧ w'.cell? ⟨w.heap.size, 7, none⟩ = some (.slice sa m.srcs.length sc) ∧ w'.cell? ⟨w.heap.size, 8, none⟩ = some (.slice ra m.recs.length rc) ∧ w'.cell? ⟨w.heap.size + 1, 0, none⟩ = some (.int .u8 y.kind) ∧ w'.cell? ⟨w.heap.size + 1, 1, none⟩ = some (.int .i64 y.ver) ∧ w'.cell? ⟨w.heap.size + 1, 2, none⟩ = some (.int .u8 y.code) ∧ w'.cell? ⟨w.heap.size + 1, 3, none⟩ = some (.int .u32 y.grp) ∧ w'.cell? ⟨w.heap.size + 1, 4, none⟩ = some (.bool y.quiet) ∧ w'.cell? ⟨w.heap.size + 1, 5, none⟩ = some (.int .u8 y.rob) ∧ w'.cell? ⟨w.heap.size + 1, 6, none⟩ = some (.int .u8 y.every) ∧ w'.cell? ⟨w.heap.size + 1, 7, none⟩ = some (.slice sb y.srcs.length sd) ∧ w'.cell? ⟨w.heap.size + 1, 8, none⟩ = some (.slice rb y.recs.length rd)) := Lib.hid (fun w' hb => by
    obtain ⟨p0, p1, p2, p3, p4, p5, p6, p7, p8, -⟩ := (M0.out.below hb M0.out.lt).cells
    obtain ⟨q0, q1, q2, q3, q4, q5, q6, q7, q8, -⟩ := (M1.out.below hb M1.out.lt).cells
    exact ⟨p0, p1, p2, p3, p4, p5, p6, p7, p8, q0, q1, q2, q3, q4, q5, q6, q7, q8⟩)
  go_region_held3 (fun w' => w'.cell? ⟨w.heap.size, 0, none⟩ = some (.int .u8 m.kind) ∧ w'.cell? ⟨w.heap.size, 1, none⟩ = some (.int .i64 m.ver) ∧ w'.cell? ⟨w.heap.size, 2, none⟩ = some (.int .u8 m.code) ∧ w'.cell? ⟨w.heap.size, 3, none⟩ = some (.int .u32 m.grp) ∧ w'.cell? ⟨w.heap.size, 4, none⟩ = some (.bool m.quiet) ∧ w'.cell? ⟨w.heap.size, 5, none⟩ = some (.int .u8 m.rob) ∧ w'.cell? ⟨w.heap.size, 6, none⟩ = some (.int .u8 m.every) ∧ w'.cell? ⟨w.heap.size, 7, none⟩ = some (.slice sa m.srcs.length sc) ∧ w'.cell? ⟨w.heap.size, 8, none⟩ = some (.slice ra m.recs.length rc) ∧ w'.cell? ⟨w.heap.size + 1, 0, none⟩ = some (.int .u8 y.kind) ∧ w'.cell? ⟨w.heap.size + 1, 1, none⟩ = some (.int .i64 y.ver) ∧ w'.cell? ⟨w.heap.size + 1, 2, none⟩ = some (.int .u8 y.code) ∧ w'.cell? ⟨w.heap.size + 1, 3, none⟩ = some (.int .u32 y.grp) ∧ w'.cell? ⟨w.heap.size + 1, 4, none⟩ = some (.bool y.quiet) ∧ w'.cell? ⟨w.heap.size + 1, 5, none⟩ = some (.int .u8 y.rob) ∧ w'.cell? ⟨w.heap.size + 1, 6, none⟩ = some (.int .u8 y.every) ∧ w'.cell? ⟨w.heap.size + 1, 7, none⟩ = some (.slice sb y.srcs.length sd) ∧ w'.cell? ⟨w.heap.size + 1, 8, none⟩ = some (.slice rb y.recs.length rd)) (first | go_keep | (first | exact KS.out _ BR.out | exact KS.out _ BR.out.drew | exact KS.out _ BR.out.drew.drew) | (go_split_ands; (first | exact KS.out _ BR.out | exact KS.out _ BR.out.drew | exact KS.out _ BR.out.drew.drew))) (first
    | (go_at_call 15; refine (gRight m sa ra sc rc _ (S0.out.below (by first | exact BR.out | exact BR.out.drew | exact BR.out.drew.drew))).mono ?_; rintro e wx ⟨rfl, hb⟩; rw [HR.out]; have BR := Lib.hid (bel_up (w := W0) (by first | exact BR.out | exact BR.out.drew | exact BR.out.drew.drew) hb); clear hb)
    | (go_at_call 16; refine (rRight m sa ra sc rc _ (S0.out.below (by first | exact BR.out | exact BR.out.drew | exact BR.out.drew.drew))).mono ?_; rintro e wx ⟨rfl, hb⟩; rw [HR.out]; have BR := Lib.hid (bel_up (w := W0) (by first | exact BR.out | exact BR.out.drew | exact BR.out.drew.drew) hb); clear hb)
    | (go_at_call 17; refine (rSame none none 0 0 0 0 [] [] _ rfl rfl (by omega) (bsN _ _) (bsN _ _)).mono ?_; rintro e wx ⟨rfl, hb⟩; rw [same_refl]; have BR := Lib.hid (bel_up (w := W0) (by first | exact BR.out | exact BR.out.drew | exact BR.out.drew.drew) hb); clear hb)
    | (go_at_call 18; refine (gSame m y sa ra sb rb sc rc sd rd _ (S0.out.below (by first | exact BR.out | exact BR.out.drew | exact BR.out.drew.drew)) (S1.out.below (by first | exact BR.out | exact BR.out.drew | exact BR.out.drew.drew))).mono ?_; rintro e wx ⟨rfl, hb⟩; rw [HZ.out]; have BR := Lib.hid (bel_up (w := W0) (by first | exact BR.out | exact BR.out.drew | exact BR.out.drew.drew) hb); clear hb)
    | (go_at_call 19; refine (rSameM m y sa ra sb rb sc rc sd rd _ (S0.out.below (by first | exact BR.out | exact BR.out.drew | exact BR.out.drew.drew)) (S1.out.below (by first | exact BR.out | exact BR.out.drew | exact BR.out.drew.drew))).mono ?_; rintro e wx ⟨rfl, hb⟩; rw [HZ.out]; have BR := Lib.hid (bel_up (w := W0) (by first | exact BR.out | exact BR.out.drew | exact BR.out.drew.drew) hb); clear hb)
    | fail)
  all_goals
    go_wp2
    go_ret
    exact ⟨rfl, BB.out.trans (Below.mono (B := W0.heap.size) (by first | exact BR.out | exact BR.out.drew | exact BR.out.drew.drew) BB.out.size)⟩
set_option maxRecDepth 100000 in
set_option maxHeartbeats 4000000 in
theorem walkR (w : World) (m : Msg) (sa : Option Addr) (sc : Nat) (ra : Option Addr) (rc : Nat) (hms : Ms w m sa ra) (y : Msg) (sb : Option Addr) (sd : Nat) (rb : Option Addr) (rd : Nat) (hmy : Ms w y sb rb) (hf : few m = true) (hy : few y = true) (hr : right m = true) :
    Calls Try.prog 3 #[.agg #[.int .u8 m.kind, .int .i64 m.ver, .int .u8 m.code, .int .u32 m.grp, .bool m.quiet, .int .u8 m.rob, .int .u8 m.every, .slice sa m.srcs.length sc, .slice ra m.recs.length rc], .agg #[.int .u8 y.kind, .int .i64 y.ver, .int .u8 y.code, .int .u32 y.grp, .bool y.quiet, .int .u8 y.rob, .int .u8 y.every, .slice sb y.srcs.length sd, .slice rb y.recs.length rd]] w fun e w' => e = .returned (.bool true) ∧ Below w.heap.size w w' := by
  obtain ⟨Z, hZ⟩ : ∃ Z, sameM m y = Z := ⟨_, rfl⟩
  obtain ⟨n, hn⟩ : ∃ n, (enc0 m).length = n := ⟨_, rfl⟩
  obtain ⟨n8, n9⟩ := right_len hr
  rw [hn] at n8 n9
  have HF := Lib.hid hms.fit
  have HI := Lib.hid (isB_encM hms.fit hr)
  have HL : Hid ((encM m).length = n) := Lib.hid (by rw [encM_len]; exact hn)
  have FW := Lib.hid hf
  clear hf
  have FY := Lib.hid hy
  clear hy
  have HR := Lib.hid hr
  clear hr
  have HZ := Lib.hid hZ
  clear hZ
  have HN := Lib.hid hn
  clear hn
  have S0 := Lib.hid hms
  have S1 := Lib.hid hmy
  clear hms hmy
  have ha := bel1 w (.cells #[.int .u8 m.kind, .int .i64 m.ver, .int .u8 m.code, .int .u32 m.grp, .bool m.quiet, .int .u8 m.rob, .int .u8 m.every, .slice sa m.srcs.length sc, .slice ra m.recs.length rc] 27)
  have BB := Lib.hid ha
  have S0 := Lib.hid (S0.out.below ha)
  have S1 := Lib.hid (S1.out.below ha)
  have M0 := Lib.hid (MB.new w (.int .u8 m.kind) (.int .i64 m.ver) (.int .u8 m.code) (.int .u32 m.grp) (.bool m.quiet) (.int .u8 m.rob) (.int .u8 m.every) (.slice sa m.srcs.length sc) (.slice ra m.recs.length rc))
  clear ha
  obtain ⟨W, hW⟩ : ∃ W, w.alloc (.cells #[.int .u8 m.kind, .int .i64 m.ver, .int .u8 m.code, .int .u32 m.grp, .bool m.quiet, .int .u8 m.rob, .int .u8 m.every, .slice sa m.srcs.length sc, .slice ra m.recs.length rc] 27) = W := ⟨_, rfl⟩
  have hZ : W.heap.size = w.heap.size + 1 := by rw [← hW]; simp
  rw [hW] at BB S0 S1 M0
  have ha := bel1 W (.cells #[.int .u8 y.kind, .int .i64 y.ver, .int .u8 y.code, .int .u32 y.grp, .bool y.quiet, .int .u8 y.rob, .int .u8 y.every, .slice sb y.srcs.length sd, .slice rb y.recs.length rd] 27)
  have BB := Lib.hid (BB.out.trans (ha.mono BB.out.size))
  have S0 := Lib.hid (S0.out.below ha)
  have S1 := Lib.hid (S1.out.below ha)
  have M0 := Lib.hid (M0.out.below ha M0.out.lt)
  have M1 := Lib.hid (MB.new W (.int .u8 y.kind) (.int .i64 y.ver) (.int .u8 y.code) (.int .u32 y.grp) (.bool y.quiet) (.int .u8 y.rob) (.int .u8 y.every) (.slice sb y.srcs.length sd) (.slice rb y.recs.length rd))
  clear ha
  subst hW
  rw [hZ] at M1
  clear hZ
  go_enter Try.func3, Try.ntmps3
  go_wp2_with fail
  refine (iShown _).mono ?_
  rintro e w1 ⟨rfl, hb⟩
  have BB := Lib.hid (BB.out.trans (hb.mono BB.out.size))
  have S0 := Lib.hid (S0.out.below hb)
  have S1 := Lib.hid (S1.out.below hb)
  have M0 := Lib.hid (M0.out.below hb M0.out.lt)
  have M1 := Lib.hid (M1.out.below hb M1.out.lt)
  clear hb
  obtain ⟨M0c0, M0c1, M0c2, M0c3, M0c4, M0c5, M0c6, M0c7, M0c8, -⟩ := M0.out.cells
  obtain ⟨M1c0, M1c1, M1c2, M1c3, M1c4, M1c5, M1c6, M1c7, M1c8, -⟩ := M1.out.cells
  go_wp2_with fail
  refine (rFew m sa ra sc rc _ S0.out).mono ?_
  rintro e w2 ⟨rfl, hb⟩
  rw [FW.out]
  have BB := Lib.hid (BB.out.trans (hb.mono BB.out.size))
  have S0 := Lib.hid (S0.out.below hb)
  have S1 := Lib.hid (S1.out.below hb)
  have M0 := Lib.hid (M0.out.below hb M0.out.lt)
  have M1 := Lib.hid (M1.out.below hb M1.out.lt)
  clear hb
  obtain ⟨M0c0, M0c1, M0c2, M0c3, M0c4, M0c5, M0c6, M0c7, M0c8, -⟩ := M0.out.cells
  obtain ⟨M1c0, M1c1, M1c2, M1c3, M1c4, M1c5, M1c6, M1c7, M1c8, -⟩ := M1.out.cells
  go_wp2_with fail
  refine (rFew y sb rb sd rd _ S1.out).mono ?_
  rintro e w3 ⟨rfl, hb⟩
  rw [FY.out]
  have BB := Lib.hid (BB.out.trans (hb.mono BB.out.size))
  have S0 := Lib.hid (S0.out.below hb)
  have S1 := Lib.hid (S1.out.below hb)
  have M0 := Lib.hid (M0.out.below hb M0.out.lt)
  have M1 := Lib.hid (M1.out.below hb M1.out.lt)
  clear hb
  obtain ⟨M0c0, M0c1, M0c2, M0c3, M0c4, M0c5, M0c6, M0c7, M0c8, -⟩ := M0.out.cells
  obtain ⟨M1c0, M1c1, M1c2, M1c3, M1c4, M1c5, M1c6, M1c7, M1c8, -⟩ := M1.out.cells
  go_wp2_with fail
  refine (gEncode_ok m sa ra sc rc _ S0.out HF.out HR.out).mono ?_
  rintro e w4 ⟨gg, rfl, ho, hg, hb⟩
  rw [HN.out]
  have BB := Lib.hid (BB.out.trans (hb.mono BB.out.size))
  have S0 := Lib.hid (S0.out.below hb)
  have S1 := Lib.hid (S1.out.below hb)
  have M0 := Lib.hid (M0.out.below hb M0.out.lt)
  have M1 := Lib.hid (M1.out.below hb M1.out.lt)
  have OG := Lib.hid (ho.bs HI.out)
  clear hb
  clear ho hg
  obtain ⟨M0c0, M0c1, M0c2, M0c3, M0c4, M0c5, M0c6, M0c7, M0c8, -⟩ := M0.out.cells
  obtain ⟨M1c0, M1c1, M1c2, M1c3, M1c4, M1c5, M1c6, M1c7, M1c8, -⟩ := M1.out.cells
  go_wp2_with fail
  refine (rEncode_ok m sa ra sc rc _ S0.out HF.out HR.out).mono ?_
  rintro e w5 ⟨gh, cap, rfl, ho, hg, hb⟩
  rw [HN.out]
  have BB := Lib.hid (BB.out.trans (hb.mono BB.out.size))
  have OG := Lib.hid (bs_below OG.out hb)
  have S0 := Lib.hid (S0.out.below hb)
  have S1 := Lib.hid (S1.out.below hb)
  have M0 := Lib.hid (M0.out.below hb M0.out.lt)
  have M1 := Lib.hid (M1.out.below hb M1.out.lt)
  have OH := Lib.hid (ho.bs HI.out)
  clear hb
  clear ho hg
  go_upto_region 6 with fail
  obtain ⟨M0c0, M0c1, M0c2, M0c3, M0c4, M0c5, M0c6, M0c7, M0c8, -⟩ := M0.out.cells
  obtain ⟨M1c0, M1c1, M1c2, M1c3, M1c4, M1c5, M1c6, M1c7, M1c8, -⟩ := M1.out.cells
  obtain ⟨W0, hW0⟩ : ∃ W0, W0 = w5 := ⟨_, rfl⟩
  rw [← hW0] at BB S0 S1 M0 M1 M0c0 M0c1 M0c2 M0c3 M0c4 M0c5 M0c6 M0c7 M0c8 M1c0 M1c1 M1c2 M1c3 M1c4 M1c5 M1c6 M1c7 M1c8 OG OH
  rw [← hW0]
  clear hW0
  have BR := Lib.hid (Below.refl W0.heap.size W0)
  have KS : Hid (∀ w' : World, Below W0.heap.size W0 w' → w'.cell? ⟨w.heap.size, 0, none⟩ = some (.int .u8 m.kind) ∧ w'.cell? ⟨w.heap.size, 1, none⟩ = some (.int .i64 m.ver) ∧ w'.cell? ⟨w.heap.size, 2, none⟩ = some (.int .u8 m.code) ∧ w'.cell? ⟨w.heap.size, 3, none⟩ = some (.int .u32 m.grp) ∧ w'.cell? ⟨w.heap.size, 4, none⟩ = some (.bool m.quiet) ∧ w'.cell? ⟨w.heap.size, 5, none⟩ = some (.int .u8 m.rob) ∧ w'.cell? ⟨w.heap.size, 6, none⟩ = some (.int .u8 m.every) ∧ w'.cell? ⟨w.heap.size, 7, none⟩ = some (.slice sa m.srcs.length sc) ∧ w'.cell? ⟨w.heap.size, 8, none⟩ = some (.slice ra m.recs.length rc) ∧ w'.cell? ⟨w.heap.size + 1, 0, none⟩ = some (.int .u8 y.kind) ∧ w'.cell? ⟨w.heap.size + 1, 1, none⟩ = some (.int .i64 y.ver) ∧ w'.cell? ⟨w.heap.size + 1, 2, none⟩ = some (.int .u8 y.code) ∧ w'.cell? ⟨w.heap.size + 1, 3, none⟩ = some (.int .u32 y.grp) ∧ w'.cell? ⟨w.heap.size + 1, 4, none⟩ = some (.bool y.quiet) ∧ w'.cell? ⟨w.heap.size + 1, 5, none⟩ = some (.int .u8 y.rob) ∧ w'.cell? ⟨w.heap.size + 1, 6, none⟩ = some (.int .u8 y.every) ∧ w'.cell? ⟨w.heap.size + 1, 7, none⟩ = some (.slice sb y.srcs.length sd) ∧ w'.cell? ⟨w.heap.size + 1, 8, none⟩ = some (.slice rb y.recs.length rd)) := Lib.hid (fun w' hb => by
    obtain ⟨p0, p1, p2, p3, p4, p5, p6, p7, p8, -⟩ := (M0.out.below hb M0.out.lt).cells
    obtain ⟨q0, q1, q2, q3, q4, q5, q6, q7, q8, -⟩ := (M1.out.below hb M1.out.lt).cells
    exact ⟨p0, p1, p2, p3, p4, p5, p6, p7, p8, q0, q1, q2, q3, q4, q5, q6, q7, q8⟩)
  go_region_held3 (fun w' => w'.cell? ⟨w.heap.size, 0, none⟩ = some (.int .u8 m.kind) ∧ w'.cell? ⟨w.heap.size, 1, none⟩ = some (.int .i64 m.ver) ∧ w'.cell? ⟨w.heap.size, 2, none⟩ = some (.int .u8 m.code) ∧ w'.cell? ⟨w.heap.size, 3, none⟩ = some (.int .u32 m.grp) ∧ w'.cell? ⟨w.heap.size, 4, none⟩ = some (.bool m.quiet) ∧ w'.cell? ⟨w.heap.size, 5, none⟩ = some (.int .u8 m.rob) ∧ w'.cell? ⟨w.heap.size, 6, none⟩ = some (.int .u8 m.every) ∧ w'.cell? ⟨w.heap.size, 7, none⟩ = some (.slice sa m.srcs.length sc) ∧ w'.cell? ⟨w.heap.size, 8, none⟩ = some (.slice ra m.recs.length rc) ∧ w'.cell? ⟨w.heap.size + 1, 0, none⟩ = some (.int .u8 y.kind) ∧ w'.cell? ⟨w.heap.size + 1, 1, none⟩ = some (.int .i64 y.ver) ∧ w'.cell? ⟨w.heap.size + 1, 2, none⟩ = some (.int .u8 y.code) ∧ w'.cell? ⟨w.heap.size + 1, 3, none⟩ = some (.int .u32 y.grp) ∧ w'.cell? ⟨w.heap.size + 1, 4, none⟩ = some (.bool y.quiet) ∧ w'.cell? ⟨w.heap.size + 1, 5, none⟩ = some (.int .u8 y.rob) ∧ w'.cell? ⟨w.heap.size + 1, 6, none⟩ = some (.int .u8 y.every) ∧ w'.cell? ⟨w.heap.size + 1, 7, none⟩ = some (.slice sb y.srcs.length sd) ∧ w'.cell? ⟨w.heap.size + 1, 8, none⟩ = some (.slice rb y.recs.length rd)) (first | go_keep | (first | exact KS.out _ BR.out | exact KS.out _ BR.out.drew | exact KS.out _ BR.out.drew.drew) | (go_split_ands; (first | exact KS.out _ BR.out | exact KS.out _ BR.out.drew | exact KS.out _ BR.out.drew.drew))) (first
    | (go_at_call 15; refine (gRight m sa ra sc rc _ (S0.out.below (by first | exact BR.out | exact BR.out.drew | exact BR.out.drew.drew))).mono ?_; rintro e wx ⟨rfl, hb⟩; rw [HR.out]; have BR := Lib.hid (bel_up (w := W0) (by first | exact BR.out | exact BR.out.drew | exact BR.out.drew.drew) hb); clear hb)
    | (go_at_call 16; refine (rRight m sa ra sc rc _ (S0.out.below (by first | exact BR.out | exact BR.out.drew | exact BR.out.drew.drew))).mono ?_; rintro e wx ⟨rfl, hb⟩; rw [HR.out]; have BR := Lib.hid (bel_up (w := W0) (by first | exact BR.out | exact BR.out.drew | exact BR.out.drew.drew) hb); clear hb)
    | (go_at_call 17; refine (rSame (some ⟨gg, 0, none⟩) (some ⟨gh, 0, none⟩) n n n cap (encM m) (encM m) _ HL.out HL.out (by omega) (bs_below OG.out (by first | exact BR.out | exact BR.out.drew | exact BR.out.drew.drew)) (bs_below OH.out (by first | exact BR.out | exact BR.out.drew | exact BR.out.drew.drew))).mono ?_; rintro e wx ⟨rfl, hb⟩; rw [same_refl]; have BR := Lib.hid (bel_up (w := W0) (by first | exact BR.out | exact BR.out.drew | exact BR.out.drew.drew) hb); clear hb)
    | (go_at_call 18; refine (gSame m y sa ra sb rb sc rc sd rd _ (S0.out.below (by first | exact BR.out | exact BR.out.drew | exact BR.out.drew.drew)) (S1.out.below (by first | exact BR.out | exact BR.out.drew | exact BR.out.drew.drew))).mono ?_; rintro e wx ⟨rfl, hb⟩; rw [HZ.out]; have BR := Lib.hid (bel_up (w := W0) (by first | exact BR.out | exact BR.out.drew | exact BR.out.drew.drew) hb); clear hb)
    | (go_at_call 19; refine (rSameM m y sa ra sb rb sc rc sd rd _ (S0.out.below (by first | exact BR.out | exact BR.out.drew | exact BR.out.drew.drew)) (S1.out.below (by first | exact BR.out | exact BR.out.drew | exact BR.out.drew.drew))).mono ?_; rintro e wx ⟨rfl, hb⟩; rw [HZ.out]; have BR := Lib.hid (bel_up (w := W0) (by first | exact BR.out | exact BR.out.drew | exact BR.out.drew.drew) hb); clear hb)
    | fail)
  all_goals
    go_wp2
    go_ret
    exact ⟨rfl, BB.out.trans (Below.mono (B := W0.heap.size) (by first | exact BR.out | exact BR.out.drew | exact BR.out.drew.drew) BB.out.size)⟩
theorem walk (w : World) (m : Msg) (sa : Option Addr) (sc : Nat) (ra : Option Addr) (rc : Nat) (hms : Ms w m sa ra) (y : Msg) (sb : Option Addr) (sd : Nat) (rb : Option Addr) (rd : Nat) (hmy : Ms w y sb rb) :
    Calls Try.prog 3 #[.agg #[.int .u8 m.kind, .int .i64 m.ver, .int .u8 m.code, .int .u32 m.grp, .bool m.quiet, .int .u8 m.rob, .int .u8 m.every, .slice sa m.srcs.length sc, .slice ra m.recs.length rc], .agg #[.int .u8 y.kind, .int .i64 y.ver, .int .u8 y.code, .int .u32 y.grp, .bool y.quiet, .int .u8 y.rob, .int .u8 y.every, .slice sb y.srcs.length sd, .slice rb y.recs.length rd]] w fun e w' => e = .returned (.bool true) ∧ Below w.heap.size w w' := by
  cases hf : few m with
  | false => exact walkF w m sa sc ra rc hms y sb sd rb rd hmy hf
  | true =>
    cases hy : few y with
    | false => exact walkG w m sa sc ra rc hms y sb sd rb rd hmy hf hy
    | true =>
      cases hr : right m with
      | false => exact walkN w m sa sc ra rc hms y sb sd rb rd hmy hf hy hr
      | true => exact walkR w m sa sc ra rc hms y sb sd rb rd hmy hf hy hr

theorem contract (H : Type) (enc : TypeId × Value → H) (W : World) (base : Nat) (args : Array Value) (ds gs : List (DataW H)) (before : List MemPlace)
    (hval : ∀ (j : Nat) t v, Try.f3.params[j]? = some t → args[j]? = some v → Value.okWide Try.prog W .any base t v)
    (hW : DataW.Whole enc Try.prog Try.f3.params.toList Rows.igmpWritesSpec.vars false W args.toList ds gs before) (hsz : (DataW.weightsEach Try.prog (Try.f3.params.toList ++ Rows.igmpWritesSpec.plain.varTypes Try.prog) (ds ++ gs)).all (· ≤ reachBytes) = true) :
    Calls Try.prog 3 args W fun e W' => ∃ v, e = .returned v ∧ Rows.igmpWritesSpec.post enc Try.prog Try.f3 false true false false W args v W' := by
  have hW' := hW
  obtain ⟨p, q, hA0, hV, rfl, hfz, hnd⟩ := hW
  have hA : DataW.TrodAll enc Try.prog W 0 (fun _ => true) true Try.f3.params.toList args.toList ds p := hA0
  rw [Try.params3] at hA hval
  obtain ⟨v0, vs0, d0, ds0, p0, q0, hargs, rfl, rfl, h0, r0⟩ := trodAll_cons hA
  obtain ⟨v1, vs1, d1, ds1, p1, q1, rfl, rfl, rfl, h1, r1⟩ := trodAll_cons r0
  obtain ⟨rfl, rfl, rfl⟩ := trodAll_nil r1
  obtain rfl : args = #[v0, v1] := by cases args; simp_all
  obtain ⟨rfl, rfl⟩ := trodVars_none hV
  have k0 := h0
  have lt0 : ∀ x ∈ p0, x.block < W.heap.size := by obtain ⟨m, hm⟩ := k0; exact DataW.trod_lt m _ _ _ hm
  have k1 := h1
  have lt1 : ∀ x ∈ p1, x.block < W.heap.size := by obtain ⟨m, hm⟩ := k1; exact DataW.trod_lt m _ _ _ hm
  obtain ⟨m0, sa0, sc0, ra0, rc0, rfl, ms0⟩ := open_msg (hval 0 27 v0 rfl rfl) h0 (fun x hx => by simpa using List.all_eq_true.1 hsz _ (DataW.weights_mem_each (j := 0) rfl rfl x hx))
  obtain ⟨m1, sa1, sc1, ra1, rc1, rfl, ms1⟩ := open_msg (hval 1 27 v1 rfl rfl) h1 (fun x hx => by simpa using List.all_eq_true.1 hsz _ (DataW.weights_mem_each (j := 1) rfl rfl x hx))
  clear hA0
  refine (walk W m0 sa0 sc0 ra0 rc0 ms0 m1 sa1 sc1 ra1 rc1 ms1).mono fun e W' ⟨he, bel⟩ => ?_
  subst he
  exact ⟨_, rfl, _, _, _, [], _, [], hW', trodAll_mk1 (shut_bool Try.underlying4 _), (trodAll_cons_mk (Below.trod laidOut (by kernel_rfl) (of_decide_eq_true (by kernel_rfl)) k0 bel lt0) (trodAll_cons_mk (Below.trod laidOut (by kernel_rfl) (of_decide_eq_true (by kernel_rfl)) k1 bel lt1) trodAll_mk0)), rfl, bel.frame _, fun h => by cases h⟩

set_option maxRecDepth 100000 in
theorem lifted (os : Os) (started : os.Started) (H : Type) (enc : TypeId × Value → H) :
    ReturnsInHanded {} Try.checked os 3 .any (Rows.igmpWritesSpec.pre6 enc Try.prog Try.f3 Rows.igmpWritesRow.domain false) (Rows.igmpWritesSpec.post enc Try.prog Try.f3 false true false false) := by
  refine returnsInHanded_of_change_sized (C := Try.checked) own started (by kernel_rfl) Try.func3
    (ChangeSpec.witness6 (enc := enc) (C := Try.checked) false ⟨#[], #[(.agg #[.int .u8 0, .int .i64 0, .int .u8 0, .int .u32 0, .bool false, .int .u8 0, .int .u8 0, .slice none 0 0, .slice none 0 0]), (.agg #[.int .u8 0, .int .i64 0, .int .u8 0, .int .u32 0, .bool false, .int .u8 0, .int .u8 0, .slice none 0 0, .slice none 0 0])], []⟩ 8 (by kernel_rfl) (by kernel_rfl) (by kernel_rfl) (by kernel_rfl)) ?_
  intro W base args ds gs before hval hW hcnd hsz _
  exact contract H enc W base args ds gs before hval hW hsz
theorem said : Rows.IgmpWritesSaid :=
  OpenClaim.holds_of_wide 3 Try.f3 rfl rfl rfl rfl rfl rfl rfl ⟨rfl, rfl, rfl, rfl, rfl⟩ rfl rfl rfl rfl rfl (by kernel_rfl) Try.func3 (by kernel_rfl)
    (of_decide_eq_true (by kernel_rfl)) (by unfold Func.isWrapper; first | (rw [if_pos (by decide +kernel)]; kernel_rfl) | (rw [if_neg (by decide +kernel)]; exact ⟨rfl, rfl⟩))
    (fun os started H enc _ => lifted os started H enc)
#print axioms said
end Go.Proofs.Ytmcnanoamgkljaa.igmpWrites
