/- The law IgmpLong: every call returns true, and its arguments read behind the call as before it. Condition: none but the row's own. -/
import Derived.Test.YtmcnanoamgkljaaQ12
import Derived.Deep.QuietTactic
import Derived.BigQuiet
namespace Go.Proofs.Ytmcnanoamgkljaa.igmpLong
set_option linter.unusedVariables false
open Go.ChangeShapes Go.WideShapes Go.ChangeAt Go.RowKit
open Go.ChangeMaps (open_string shut_string)

theorem recsN_take_succ {l : List Rec} {k : Nat} {r : Rec} (h : l[k]? = some r) : recsN (l.take (k + 1)) = recsN (l.take k) + (8 + 4 * r.srcs.length) := by
  induction l generalizing k with
  | nil => simp at h
  | cons x l ih =>
    cases k with
    | zero => simp at h; subst h; simp [recsN]
    | succ k =>
      simp only [List.getElem?_cons_succ] at h
      simp only [List.take_succ_cons, recsN]
      rw [ih h]; omega
theorem recsN_take_le (l : List Rec) (k : Nat) : recsN (l.take k) ≤ recsN l := by
  induction l generalizing k with
  | nil => simp [recsN]
  | cons x l ih =>
    cases k with
    | zero => simp [recsN]
    | succ k => simp only [List.take_succ_cons, recsN]; have := ih k; omega
theorem ver3 {m : Msg} (h : right m = true) (hv : m.ver = 3) : m.recs = [] ∧ (enc0 m).length = 12 + 4 * m.srcs.length ∧ m.srcs.length ≤ 64 := by
  have h3 := right_q3 h hv
  refine ⟨?_, len3 h3.1 hv, h3.2.2⟩
  rcases right_forms h with ⟨h, _⟩ | ⟨hk, h⟩ | h | ⟨h, _⟩ | ⟨h, _⟩
  · rw [h] at hv; cases hv
  all_goals rw [h]
theorem verO {m : Msg} (h : right m = true) (hv : m.ver ≠ 3) : (enc0 m).length = 8 + recsN m.recs := by
  rcases right_forms h with ⟨e, _⟩ | ⟨hk, e⟩ | e | ⟨e, _⟩ | ⟨e, _⟩
  · exact len34 (by rw [e]) hv
  · rw [lenO (by omega) hv, e]; rfl
  · rw [lenO (by rw [e]; decide) hv, e]; rfl
  · rw [lenO (by rw [e]; show (17 : Int) ≠ 34; decide) hv, e]; rfl
  · rw [e] at hv; exact absurd rfl hv
set_option maxRecDepth 100000 in
set_option maxHeartbeats 4000000 in
theorem walkF (w : World) (m : Msg) (sa : Option Addr) (sc : Nat) (ra : Option Addr) (rc : Nat) (hms : Ms w m sa ra) (hf : few m = false) :
    Calls Try.prog 7 #[.agg #[.int .u8 m.kind, .int .i64 m.ver, .int .u8 m.code, .int .u32 m.grp, .bool m.quiet, .int .u8 m.rob, .int .u8 m.every, .slice sa m.srcs.length sc, .slice ra m.recs.length rc]] w fun e w' => e = .returned (.bool true) ∧ Below w.heap.size w w' := by
  have FW := Lib.hid hf
  clear hf
  have S0 := Lib.hid hms
  clear hms
  have ha := bel1 w (.cells #[.int .u8 m.kind, .int .i64 m.ver, .int .u8 m.code, .int .u32 m.grp, .bool m.quiet, .int .u8 m.rob, .int .u8 m.every, .slice sa m.srcs.length sc, .slice ra m.recs.length rc] 27)
  have BB := Lib.hid ha
  have S0 := Lib.hid (S0.out.below ha)
  have M0 := Lib.hid (MB.new w (.int .u8 m.kind) (.int .i64 m.ver) (.int .u8 m.code) (.int .u32 m.grp) (.bool m.quiet) (.int .u8 m.rob) (.int .u8 m.every) (.slice sa m.srcs.length sc) (.slice ra m.recs.length rc))
  clear ha
  go_enter Try.func7, Try.ntmps7
  go_wp2_with fail
  refine (iShown _).mono ?_
  rintro e w1 ⟨rfl, hb⟩
  have BB := Lib.hid (BB.out.trans (hb.mono BB.out.size))
  have S0 := Lib.hid (S0.out.below hb)
  have M0 := Lib.hid (M0.out.below hb M0.out.lt)
  clear hb
  obtain ⟨M0c0, M0c1, M0c2, M0c3, M0c4, M0c5, M0c6, M0c7, M0c8, -⟩ := M0.out.cells
  go_wp2_with fail
  refine (rFew m sa ra sc rc _ S0.out).mono ?_
  rintro e w2 ⟨rfl, hb⟩
  rw [FW.out]
  have BB := Lib.hid (BB.out.trans (hb.mono BB.out.size))
  have S0 := Lib.hid (S0.out.below hb)
  have M0 := Lib.hid (M0.out.below hb M0.out.lt)
  clear hb
  go_wp2
  go_ret
  exact ⟨rfl, BB.out⟩
set_option maxRecDepth 100000 in
set_option maxHeartbeats 4000000 in
theorem walkN (w : World) (m : Msg) (sa : Option Addr) (sc : Nat) (ra : Option Addr) (rc : Nat) (hms : Ms w m sa ra) (hf : few m = true) (hr : right m = false) :
    Calls Try.prog 7 #[.agg #[.int .u8 m.kind, .int .i64 m.ver, .int .u8 m.code, .int .u32 m.grp, .bool m.quiet, .int .u8 m.rob, .int .u8 m.every, .slice sa m.srcs.length sc, .slice ra m.recs.length rc]] w fun e w' => e = .returned (.bool true) ∧ Below w.heap.size w w' := by
  have FW := Lib.hid hf
  clear hf
  have HR := Lib.hid hr
  clear hr
  have S0 := Lib.hid hms
  clear hms
  have ha := bel1 w (.cells #[.int .u8 m.kind, .int .i64 m.ver, .int .u8 m.code, .int .u32 m.grp, .bool m.quiet, .int .u8 m.rob, .int .u8 m.every, .slice sa m.srcs.length sc, .slice ra m.recs.length rc] 27)
  have BB := Lib.hid ha
  have S0 := Lib.hid (S0.out.below ha)
  have M0 := Lib.hid (MB.new w (.int .u8 m.kind) (.int .i64 m.ver) (.int .u8 m.code) (.int .u32 m.grp) (.bool m.quiet) (.int .u8 m.rob) (.int .u8 m.every) (.slice sa m.srcs.length sc) (.slice ra m.recs.length rc))
  clear ha
  go_enter Try.func7, Try.ntmps7
  go_wp2_with fail
  refine (iShown _).mono ?_
  rintro e w1 ⟨rfl, hb⟩
  have BB := Lib.hid (BB.out.trans (hb.mono BB.out.size))
  have S0 := Lib.hid (S0.out.below hb)
  have M0 := Lib.hid (M0.out.below hb M0.out.lt)
  clear hb
  obtain ⟨M0c0, M0c1, M0c2, M0c3, M0c4, M0c5, M0c6, M0c7, M0c8, -⟩ := M0.out.cells
  go_wp2_with fail
  refine (rFew m sa ra sc rc _ S0.out).mono ?_
  rintro e w2 ⟨rfl, hb⟩
  rw [FW.out]
  have BB := Lib.hid (BB.out.trans (hb.mono BB.out.size))
  have S0 := Lib.hid (S0.out.below hb)
  have M0 := Lib.hid (M0.out.below hb M0.out.lt)
  clear hb
  obtain ⟨M0c0, M0c1, M0c2, M0c3, M0c4, M0c5, M0c6, M0c7, M0c8, -⟩ := M0.out.cells
  go_wp2_with fail
  refine (rRight m sa ra sc rc _ S0.out).mono ?_
  rintro e w3 ⟨rfl, hb⟩
  rw [HR.out]
  have BB := Lib.hid (BB.out.trans (hb.mono BB.out.size))
  have S0 := Lib.hid (S0.out.below hb)
  have M0 := Lib.hid (M0.out.below hb M0.out.lt)
  clear hb
  go_wp2
  go_ret
  exact ⟨rfl, BB.out⟩
set_option maxRecDepth 100000 in
set_option maxHeartbeats 4000000 in
theorem walkV (w : World) (m : Msg) (sa : Option Addr) (sc : Nat) (ra : Option Addr) (rc : Nat) (hms : Ms w m sa ra) (hf : few m = true) (hr : right m = true) (hv : m.ver = 3) :
    Calls Try.prog 7 #[.agg #[.int .u8 m.kind, .int .i64 m.ver, .int .u8 m.code, .int .u32 m.grp, .bool m.quiet, .int .u8 m.rob, .int .u8 m.every, .slice sa m.srcs.length sc, .slice ra m.recs.length rc]] w fun e w' => e = .returned (.bool true) ∧ Below w.heap.size w w' := by
  obtain ⟨e1, e2, e3⟩ := ver3 hr hv
  obtain ⟨n8, n9⟩ := right_len hr
  have HF := Lib.hid hms.fit
  obtain ⟨mk, mv, mc, mg, mq, mr, me, ms, ml⟩ := m
  simp only at hv e1 e2 e3
  subst hv e1
  clear n8 n9
  have q0 : (((12 + 4 * ms.length : Nat) : Int) == 12 + 4 * (ms.length : Int)) = true := by rw [beq_iff_eq]; omega
  have q1 : (((ms.length : Int) * 4 + 12) == 12 + 4 * (ms.length : Int)) = true := by rw [beq_iff_eq]; omega
  have q2 : decide ((0 : Int) < 12 + 4 * (ms.length : Int)) = true := by rw [decide_eq_true_eq]; omega
  have q3 : (0 : Int) < ((12 + 4 * ms.length : Nat) : Int) := by omega
  have q4 : (1 : Int) < ((12 + 4 * ms.length : Nat) : Int) := by omega
  have FW := Lib.hid hf
  clear hf
  have HR := Lib.hid hr
  clear hr
  have HN := Lib.hid e2
  clear e2
  have S0 := Lib.hid hms
  clear hms
  have ha := bel1 w (.cells #[.int .u8 mk, .int .i64 3, .int .u8 mc, .int .u32 mg, .bool mq, .int .u8 mr, .int .u8 me, .slice sa ms.length sc, .slice ra 0 rc] 27)
  have BB := Lib.hid ha
  have S0 := Lib.hid (S0.out.below ha)
  have M0 := Lib.hid (MB.new w (.int .u8 mk) (.int .i64 3) (.int .u8 mc) (.int .u32 mg) (.bool mq) (.int .u8 mr) (.int .u8 me) (.slice sa ms.length sc) (.slice ra 0 rc))
  clear ha
  go_enter Try.func7, Try.ntmps7
  go_wp2_with fail
  refine (iShown _).mono ?_
  rintro e w1 ⟨rfl, hb⟩
  have BB := Lib.hid (BB.out.trans (hb.mono BB.out.size))
  have S0 := Lib.hid (S0.out.below hb)
  have M0 := Lib.hid (M0.out.below hb M0.out.lt)
  clear hb
  obtain ⟨M0c0, M0c1, M0c2, M0c3, M0c4, M0c5, M0c6, M0c7, M0c8, -⟩ := M0.out.cells
  go_wp2_with fail
  refine (rFew ⟨mk, 3, mc, mg, mq, mr, me, ms, []⟩ sa ra sc rc _ S0.out).mono ?_
  rintro e w2 ⟨rfl, hb⟩
  rw [FW.out]
  have BB := Lib.hid (BB.out.trans (hb.mono BB.out.size))
  have S0 := Lib.hid (S0.out.below hb)
  have M0 := Lib.hid (M0.out.below hb M0.out.lt)
  clear hb
  obtain ⟨M0c0, M0c1, M0c2, M0c3, M0c4, M0c5, M0c6, M0c7, M0c8, -⟩ := M0.out.cells
  go_wp2_with fail
  refine (rRight ⟨mk, 3, mc, mg, mq, mr, me, ms, []⟩ sa ra sc rc _ S0.out).mono ?_
  rintro e w3 ⟨rfl, hb⟩
  rw [HR.out]
  have BB := Lib.hid (BB.out.trans (hb.mono BB.out.size))
  have S0 := Lib.hid (S0.out.below hb)
  have M0 := Lib.hid (M0.out.below hb M0.out.lt)
  clear hb
  obtain ⟨M0c0, M0c1, M0c2, M0c3, M0c4, M0c5, M0c6, M0c7, M0c8, -⟩ := M0.out.cells
  go_wp2
  refine wp_loop_rounds 1 ?_
  rw [rounds_succ]
  obtain ⟨M0c0, M0c1, M0c2, M0c3, M0c4, M0c5, M0c6, M0c7, M0c8, -⟩ := M0.out.cells
  go_wp2_with fail
  refine (gEncode_ok ⟨mk, 3, mc, mg, mq, mr, me, ms, []⟩ sa ra sc rc _ S0.out HF.out HR.out).mono ?_
  rintro e w4 ⟨gg, rfl, ho, hg, hb⟩
  rw [HN.out]
  have OG := Lib.hid ho
  have BB := Lib.hid (BB.out.trans (hb.mono BB.out.size))
  have S0 := Lib.hid (S0.out.below hb)
  have M0 := Lib.hid (M0.out.below hb M0.out.lt)
  clear hb
  clear ho hg
  have g0 := OG.out.cell (k := 0) (by rw [encM_len, HN.out]; omega)
  have g1 := OG.out.cell (k := 1) (by rw [encM_len, HN.out]; omega)
  rw [encM_0] at g0
  try simp only at g0
  rw [encM_1] at g1
  try simp only at g1
  obtain ⟨M0c0, M0c1, M0c2, M0c3, M0c4, M0c5, M0c6, M0c7, M0c8, -⟩ := M0.out.cells
  go_wp2
  go_quiet (fail)
  go_wp2
  go_ret
  exact ⟨rfl, (by first | exact BB.out | exact BB.out.drew | exact bdrawn BB.out _)⟩
set_option maxRecDepth 100000 in
set_option maxHeartbeats 4000000 in
theorem walkO (w : World) (m : Msg) (sa : Option Addr) (sc : Nat) (ra : Option Addr) (rc : Nat) (hms : Ms w m sa ra) (hf : few m = true) (hr : right m = true) (hv : m.ver ≠ 3) :
    Calls Try.prog 7 #[.agg #[.int .u8 m.kind, .int .i64 m.ver, .int .u8 m.code, .int .u32 m.grp, .bool m.quiet, .int .u8 m.rob, .int .u8 m.every, .slice sa m.srcs.length sc, .slice ra m.recs.length rc]] w fun e w' => e = .returned (.bool true) ∧ Below w.heap.size w w' := by
  have v3 : (m.ver == 3) = false := by rw [beq_eq_false_iff_ne]; exact hv
  have HN0 := Lib.hid (verO hr hv)
  have n9 : 8 + recsN m.recs ≤ 9000 := by
    have := (right_len hr).2
    rw [verO hr hv] at this
    exact this
  have N9 := Lib.hid n9
  have okx : Hid (∀ x ∈ m.recs, x.srcs.length ≤ 9000) := Lib.hid (by
    intro x hx
    obtain ⟨k, hk⟩ := List.getElem?_of_mem hx
    have h1 := recsN_take_succ hk
    have h2 := recsN_take_le m.recs (k + 1)
    omega)
  have HF := Lib.hid hms.fit
  have hN0 := hms.2.2.2.2.2.2.2.2.2
  clear n9 hv
  have FW := Lib.hid hf
  clear hf
  have HR := Lib.hid hr
  clear hr
  have S0 := Lib.hid hms
  clear hms
  have ha := bel1 w (.cells #[.int .u8 m.kind, .int .i64 m.ver, .int .u8 m.code, .int .u32 m.grp, .bool m.quiet, .int .u8 m.rob, .int .u8 m.every, .slice sa m.srcs.length sc, .slice ra m.recs.length rc] 27)
  have BB := Lib.hid ha
  have S0 := Lib.hid (S0.out.below ha)
  have M0 := Lib.hid (MB.new w (.int .u8 m.kind) (.int .i64 m.ver) (.int .u8 m.code) (.int .u32 m.grp) (.bool m.quiet) (.int .u8 m.rob) (.int .u8 m.every) (.slice sa m.srcs.length sc) (.slice ra m.recs.length rc))
  clear ha
  go_enter Try.func7, Try.ntmps7
  go_wp2_with fail
  refine (iShown _).mono ?_
  rintro e w1 ⟨rfl, hb⟩
  have BB := Lib.hid (BB.out.trans (hb.mono BB.out.size))
  have S0 := Lib.hid (S0.out.below hb)
  have M0 := Lib.hid (M0.out.below hb M0.out.lt)
  clear hb
  obtain ⟨M0c0, M0c1, M0c2, M0c3, M0c4, M0c5, M0c6, M0c7, M0c8, -⟩ := M0.out.cells
  go_wp2_with fail
  refine (rFew m sa ra sc rc _ S0.out).mono ?_
  rintro e w2 ⟨rfl, hb⟩
  rw [FW.out]
  have BB := Lib.hid (BB.out.trans (hb.mono BB.out.size))
  have S0 := Lib.hid (S0.out.below hb)
  have M0 := Lib.hid (M0.out.below hb M0.out.lt)
  clear hb
  obtain ⟨M0c0, M0c1, M0c2, M0c3, M0c4, M0c5, M0c6, M0c7, M0c8, -⟩ := M0.out.cells
  go_wp2_with fail
  refine (rRight m sa ra sc rc _ S0.out).mono ?_
  rintro e w3 ⟨rfl, hb⟩
  rw [HR.out]
  have BB := Lib.hid (BB.out.trans (hb.mono BB.out.size))
  have S0 := Lib.hid (S0.out.below hb)
  have M0 := Lib.hid (M0.out.below hb M0.out.lt)
  clear hb
  obtain ⟨M0c0, M0c1, M0c2, M0c3, M0c4, M0c5, M0c6, M0c7, M0c8, -⟩ := M0.out.cells
  obtain ⟨W0, hW0⟩ : ∃ W0, W0 = w3 := ⟨_, rfl⟩
  rw [← hW0] at BB S0 M0 M0c0 M0c1 M0c2 M0c3 M0c4 M0c5 M0c6 M0c7 M0c8
  rw [← hW0]
  clear hW0
  go_wp2
  go_loopw [4, 5] (fun t i wr => ∃ j : Nat, j ≤ m.recs.length ∧ i = .int .i64 j ∧ t = .int .i64 ((8 + recsN (m.recs.take j) : Nat) : Int) ∧ wr = W0) (fun _ i _ => m.recs.length - (intOf i).toNat)
  case atStart => exact ⟨0, by omega, rfl, by simp [recsN], rfl⟩
  case round =>
    obtain ⟨j, hj, rfl, rfl, rfl⟩ := hrel
    have tb : 8 + recsN (m.recs.take j) ≤ 9000 := by
      have := recsN_take_le m.recs j
      have := N9.out
      omega
    obtain ⟨t, ht⟩ : ∃ t, t = 8 + recsN (m.recs.take j) := ⟨_, rfl⟩
    rw [← ht] at tb ⊢
    have HT := Lib.hid ht
    clear ht
    by_cases hlt : j < m.recs.length
    · obtain ⟨x, hxk⟩ : ∃ x, m.recs[j]? = some x := ⟨_, List.getElem?_eq_getElem hlt⟩
      have HXK := Lib.hid hxk
      have hrs := S0.out.2.1
      rcases hrs with hrs | ⟨b1, o1, rfl, hrs⟩
      · rw [hrs] at hxk; simp at hxk
      obtain ⟨ax, cx, x0, x1, x2, _, x4, x5, hxl⟩ := hrs j x hxk
      have hx64 := (okx.out x (List.mem_of_getElem? hxk))
      clear hrs hxk
      have l1 := cell_lt x0
      simp only at l1
      have i1 : (0 : Int) ≤ (j : Int) := by omega
      have i2 : (j : Int) < (m.recs.length : Int) := by omega
      obtain ⟨u, hu⟩ : ∃ u, u = x.srcs.length := ⟨_, rfl⟩
      have HU := Lib.hid hu
      rw [← hu] at x2 hxl hx64
      clear hu
      go_wp2
      go_roundw
      case rel => exact ⟨j + 1, by omega, by go_num, by rw [recsN_take_succ HXK.out, ← HU.out]; have := HT.out; go_num, by first | rfl | trivial⟩
      case measure => simp [intOf]; omega
    · obtain rfl : j = m.recs.length := by omega
      have HN : Hid ((enc0 m).length = t) := Lib.hid (by
        have h2 := HT.out
        rw [List.take_length] at h2
        rw [h2]; exact HN0.out)
      have t8 : 8 ≤ t := by have := HT.out; omega
      have q2 : decide ((0 : Int) < (t : Int)) = true := by rw [decide_eq_true_eq]; omega
      have q3 : (0 : Int) < (t : Int) := by omega
      have q4 : (1 : Int) < (t : Int) := by omega
      have q5 : 0 < t := by omega
      have q6 : decide (0 < t) = true := by rw [decide_eq_true_eq]; omega
      have q7 : 1 < t := by omega
      obtain ⟨M0c0, M0c1, M0c2, M0c3, M0c4, M0c5, M0c6, M0c7, M0c8, -⟩ := M0.out.cells
      go_wp2_with fail
      refine (gEncode_ok m sa ra sc rc _ S0.out HF.out HR.out).mono ?_
      rintro e w4 ⟨gg, rfl, ho, hg, hb⟩
      rw [HN.out]
      have OG := Lib.hid ho
      have BB := Lib.hid (BB.out.trans (hb.mono BB.out.size))
      have S0 := Lib.hid (S0.out.below hb)
      have M0 := Lib.hid (M0.out.below hb M0.out.lt)
      clear hb
      clear ho hg
      have g0 := OG.out.cell (k := 0) (by rw [encM_len, HN.out]; omega)
      have g1 := OG.out.cell (k := 1) (by rw [encM_len, HN.out]; omega)
      rw [encM_0] at g0
      try simp only at g0
      rw [encM_1] at g1
      try simp only at g1
      obtain ⟨M0c0, M0c1, M0c2, M0c3, M0c4, M0c5, M0c6, M0c7, M0c8, -⟩ := M0.out.cells
      go_wp2
      go_quiet (fail)
      go_wp2
      go_ret
      exact ⟨rfl, (by first | exact BB.out | exact BB.out.drew | exact bdrawn BB.out _)⟩
theorem walk (w : World) (m : Msg) (sa : Option Addr) (sc : Nat) (ra : Option Addr) (rc : Nat) (hms : Ms w m sa ra) :
    Calls Try.prog 7 #[.agg #[.int .u8 m.kind, .int .i64 m.ver, .int .u8 m.code, .int .u32 m.grp, .bool m.quiet, .int .u8 m.rob, .int .u8 m.every, .slice sa m.srcs.length sc, .slice ra m.recs.length rc]] w fun e w' => e = .returned (.bool true) ∧ Below w.heap.size w w' := by
  cases hf : few m with
  | false => exact walkF w m sa sc ra rc hms hf
  | true =>
    cases hr : right m with
    | false => exact walkN w m sa sc ra rc hms hf hr
    | true =>
      by_cases hv : m.ver = 3
      · exact walkV w m sa sc ra rc hms hf hr hv
      · exact walkO w m sa sc ra rc hms hf hr hv

theorem contract (H : Type) (enc : TypeId × Value → H) (W : World) (base : Nat) (args : Array Value) (ds gs : List (DataW H)) (before : List MemPlace)
    (hval : ∀ (j : Nat) t v, Try.f7.params[j]? = some t → args[j]? = some v → Value.okWide Try.prog W .any base t v)
    (hW : DataW.Whole enc Try.prog Try.f7.params.toList Rows.igmpLongSpec.vars false W args.toList ds gs before) (hsz : (DataW.weightsEach Try.prog (Try.f7.params.toList ++ Rows.igmpLongSpec.plain.varTypes Try.prog) (ds ++ gs)).all (· ≤ reachBytes) = true) :
    Calls Try.prog 7 args W fun e W' => ∃ v, e = .returned v ∧ Rows.igmpLongSpec.post enc Try.prog Try.f7 false true false false W args v W' := by
  have hW' := hW
  obtain ⟨p, q, hA0, hV, rfl, hfz, hnd⟩ := hW
  have hA : DataW.TrodAll enc Try.prog W 0 (fun _ => true) true Try.f7.params.toList args.toList ds p := hA0
  rw [Try.params7] at hA hval
  obtain ⟨v0, vs0, d0, ds0, p0, q0, hargs, rfl, rfl, h0, r0⟩ := trodAll_cons hA
  obtain ⟨rfl, rfl, rfl⟩ := trodAll_nil r0
  obtain rfl : args = #[v0] := by cases args; simp_all
  obtain ⟨rfl, rfl⟩ := trodVars_none hV
  have k0 := h0
  have lt0 : ∀ x ∈ p0, x.block < W.heap.size := by obtain ⟨m, hm⟩ := k0; exact DataW.trod_lt m _ _ _ hm
  obtain ⟨m0, sa0, sc0, ra0, rc0, rfl, ms0⟩ := open_msg (hval 0 27 v0 rfl rfl) h0 (fun x hx => by simpa using List.all_eq_true.1 hsz _ (DataW.weights_mem_each (j := 0) rfl rfl x hx))
  clear hA0
  refine (walk W m0 sa0 sc0 ra0 rc0 ms0).mono fun e W' ⟨he, bel⟩ => ?_
  subst he
  exact ⟨_, rfl, _, _, _, [], _, [], hW', trodAll_mk1 (shut_bool Try.underlying4 _), (trodAll_cons_mk (Below.trod laidOut (by kernel_rfl) (of_decide_eq_true (by kernel_rfl)) k0 bel lt0) trodAll_mk0), rfl, bel.frame _, fun h => by cases h⟩

set_option maxRecDepth 100000 in
theorem lifted (os : Os) (started : os.Started) (H : Type) (enc : TypeId × Value → H) :
    ReturnsInHanded {} Try.checked os 7 .any (Rows.igmpLongSpec.pre6 enc Try.prog Try.f7 Rows.igmpLongRow.domain false) (Rows.igmpLongSpec.post enc Try.prog Try.f7 false true false false) := by
  refine returnsInHanded_of_change_sized (C := Try.checked) own started (by kernel_rfl) Try.func7
    (ChangeSpec.witness6 (enc := enc) (C := Try.checked) false ⟨#[], #[(.agg #[.int .u8 0, .int .i64 0, .int .u8 0, .int .u32 0, .bool false, .int .u8 0, .int .u8 0, .slice none 0 0, .slice none 0 0])], []⟩ 8 (by kernel_rfl) (by kernel_rfl) (by kernel_rfl) (by kernel_rfl)) ?_
  intro W base args ds gs before hval hW hcnd hsz _
  exact contract H enc W base args ds gs before hval hW hsz
theorem said : Rows.IgmpLongSaid :=
  OpenClaim.holds_of_wide 7 Try.f7 rfl rfl rfl rfl rfl rfl rfl ⟨rfl, rfl, rfl, rfl, rfl⟩ rfl rfl rfl rfl rfl (by kernel_rfl) Try.func7 (by kernel_rfl)
    (of_decide_eq_true (by kernel_rfl)) (by unfold Func.isWrapper; first | (rw [if_pos (by decide +kernel)]; kernel_rfl) | (rw [if_neg (by decide +kernel)]; exact ⟨rfl, rfl⟩))
    (fun os started H enc _ => lifted os started H enc)
#print axioms said
end Go.Proofs.Ytmcnanoamgkljaa.igmpLong
