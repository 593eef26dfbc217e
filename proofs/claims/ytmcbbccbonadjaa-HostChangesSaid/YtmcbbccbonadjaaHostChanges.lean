/- The law HostChanges: every call returns true, and its arguments read behind the call as before it. Condition: none but the row's own. -/
import Derived.Test.YtmcbbccbonadjaaW14
namespace Go.Proofs.Ytmcbbccbonadjaa.hostChanges
set_option linter.unusedVariables false
open Go.ChangeShapes Go.WideShapes Go.ChangeAt Go.RowKit
open Go.ChangeMaps (open_string shut_string)

theorem chg_src (p q : Bool) (xs ys : List Int) : ∀ r ∈ chg p q xs ys, r.srcs.length ≤ xs.length + ys.length := by
  have h1 := dif_len xs ys
  have h2 := dif_len ys xs
  cases p <;> cases q <;> simp only [chg, List.mem_cons, List.not_mem_nil, or_false]
  · rintro r (rfl | rfl)
    · show (dif ys xs).length ≤ _; omega
    · show (dif xs ys).length ≤ _; omega
  · rintro r rfl; show ys.length ≤ _; omega
  · rintro r rfl; show ys.length ≤ _; omega
  · rintro r (rfl | rfl)
    · show (dif xs ys).length ≤ _; omega
    · show (dif ys xs).length ≤ _; omega
theorem said_src {g : Int} {n : Nat} {rs : List Rc} (h : ∀ r ∈ rs, r.srcs.length ≤ n) : ∀ r ∈ said g rs, r.srcs.length ≤ n := by
  intro r hr
  obtain ⟨s, hs, rfl⟩ := List.mem_map.1 hr
  exact h s (List.mem_filter.1 hs).1
theorem change_few {g : Int} {e1 e2 : Bool} {xs ys : List Int} (hx : xs.length ≤ 160000) (hy : ys.length ≤ 160000) : (change g e1 xs e2 ys).length ≤ 2 ∧ ∀ r ∈ change g e1 xs e2 ys, r.srcs.length ≤ 400000 := by
  have h2 := said_len g (chg e1 e2 xs ys)
  have h3 := chg_len e1 e2 xs ys
  refine ⟨by unfold change; omega, fun r hr => ?_⟩
  have := said_src (chg_src e1 e2 xs ys) r hr
  omega
theorem wants_few {ss : List Sk} (h : FewS ss) (g : Int) : (wants g ss).2.length ≤ 160000 := flt_len (ofG_few (g := g) h)
theorem putS_few {ss : List Sk} {s : Sk} (h : okH ss) : (putS ss s).length ≤ 2 ∧ ∀ r ∈ putS ss s, r.srcs.length ≤ 400000 := by
  have h2 := putH_ok (s := s) h
  unfold putS
  unfold putH at h2
  split
  · rename_i he
    rw [if_pos he] at h2
    exact change_few (wants_few (okH_few h) _) (wants_few (okH_few h2) _)
  · exact ⟨by simp, by simp⟩
theorem dropS_few {ss : List Sk} {id : Int} (h : FewS ss) : (dropS ss id).length ≤ 2 ∧ ∀ r ∈ dropS ss id, r.srcs.length ≤ 400000 := by
  unfold dropS
  split
  · exact change_few (wants_few h _) (wants_few (dropL_few h) _)
  · exact ⟨by simp, by simp⟩
theorem dropH_few {ss : List Sk} {id : Int} (h : FewS ss) : FewS (dropH ss id) := by
  unfold dropH
  split
  · exact dropL_few h
  · exact h
theorem rcs_few {rs R : List Rc} (h : rs.map Rc.nm = R.map Rc.nm) (hl : R.length ≤ 2 ∧ ∀ r ∈ R, r.srcs.length ≤ 400000) : rs.length ≤ 2 ∧ ∀ r ∈ rs, r.srcs.length ≤ 1000000000 := by
  have h1 := congrArg List.length h
  rw [List.length_map, List.length_map] at h1
  refine ⟨by rw [h1]; exact hl.1, fun r hr => ?_⟩
  have h1 : r.nm ∈ R.map Rc.nm := h ▸ List.mem_map.2 ⟨r, hr, rfl⟩
  obtain ⟨s, hs, e⟩ := List.mem_map.1 h1
  have h2 := hl.2 s hs
  rw [show s.srcs = r.srcs from congrArg (fun z => z.srcs) e] at h2
  omega
theorem ok_g0 {ss : List Sk} (h : okH ss) : ∀ s ∈ ss, s.g ≠ 0 := fun s hs e => by
  have h1 := (h.1 s hs).2.1
  rw [e] at h1
  exact absurd h1 (by decide)
def hcV (N : Nat) (g : Int) (p ex : Bool) (ya fa : Option Addr) (yn sn yc fc : Nat) (R : List Rc) : Nat → Value → List Value → World → Prop
  | 0, v, _, _ => v = .bool true
  | 1, v, _, _ => v = .bool true
  | 2, v, _, _ => v = .pointer (some ⟨N + 2, 1, none⟩)
  | 3, v, _, _ => v = .int .u32 g
  | 4, v, _, _ => v = .agg #[.bool p, .slice ya yn yc]
  | 5, v, _, _ => v = .pointer (some ⟨N + 2, 2, none⟩)
  | 6, v, _, _ => v = .agg #[.bool ex, .slice fa sn fc]
  | 7, v, _, w => ∃ (b28 : Option Addr) (d28 : Nat) (rs28 : List Rc), v = .slice b28 (List.length rs28) d28 ∧ rs28.map Rc.nm = R.map Rc.nm ∧ Rcs w b28 rs28
  | 8, v, _, _ => v = .pointer (some ⟨N + 2, 1, none⟩)
  | 9, v, _, _ => v = .int .u32 g
  | 10, v, _, _ => v = .agg #[.bool p, .slice ya yn yc]
  | 11, v, _, _ => v = .pointer (some ⟨N + 2, 2, none⟩)
  | 12, v, _, _ => v = .agg #[.bool ex, .slice fa sn fc]
  | 13, v, _, w => ∃ (b34 : Option Addr) (d34 : Nat) (rs34 : List Rc), v = .slice b34 (List.length rs34) d34 ∧ rs34.map Rc.nm = R.map Rc.nm ∧ Rcs w b34 rs34
  | 14, v, _, _ => v = .bool true
  | 15, v, _, _ => v = .bool true
  | 16, v, _, _ => v = .bool true
  | _, _, _, _ => True
def hcD : Nat → List Nat
  | 1 => [0]
  | 2 => [1]
  | 3 => [2, 1]
  | 4 => [1]
  | 5 => [1]
  | 6 => [5, 1]
  | 7 => [3, 4, 6, 1]
  | 8 => [1]
  | 9 => [8, 1]
  | 10 => [1]
  | 11 => [1]
  | 12 => [11, 1]
  | 13 => [9, 10, 12, 1]
  | 14 => [7, 13, 1]
  | 15 => [1, 14]
  | 16 => [15]
  | _ => []
theorem hc_st (N : Nat) (g : Int) (p ex : Bool) (ya fa : Option Addr) (yn sn yc fc : Nat) (R : List Rc) {i : Nat} {v : Value} {us : List Value} {w w' : World}  (hr : Below w.heap.size w w') (hv : hcV N g p ex ya fa yn sn yc fc R i v us w) : hcV N g p ex ya fa yn sn yc fc R i v us w' := by
  unfold hcV at hv ⊢
  split at hv
  all_goals first
    | exact hv
    | (obtain ⟨b28, d28, rs28, e, m28, k28⟩ := hv; exact ⟨b28, d28, rs28, e, m28, k28.below hr⟩)
    | (obtain ⟨b34, d34, rs34, e, m34, k34⟩ := hv; exact ⟨b34, d34, rs34, e, m34, k34.below hr⟩)
set_option linter.unusedSimpArgs false in
set_option maxRecDepth 100000 in
set_option maxHeartbeats 16000000 in
theorem walk (w : World) (a : Option Addr) (c : Nat) (ss : List Sk) (s : Sk) (did : Int) (f : Flt) (hin : HIn w a ss c) (hsin : SIn w s) (hff : FOk w f) (hf0 : f.srcs.length ≤ 1125899906842624) :
    Calls Try.prog 4 #[.agg #[.slice a (List.length ss) c, .int .i64 s.id, .int .u32 s.g, .bool s.f.ex, s.f.sl, .int .i64 did, .bool f.ex, f.sl]] w fun e w' => e = .returned (.bool true) ∧ Below w.heap.size w w' := by
  obtain ⟨id, g, ⟨ex, srcs, fa, fc⟩⟩ := s
  obtain ⟨fex, ys, ya, yc⟩ := f
  obtain ⟨n, hn⟩ : ∃ n, ss.length = n := ⟨_, rfl⟩
  obtain ⟨hS, hn0, hsl, hni, hnc⟩ := hin
  obtain ⟨hF, hg, hs0⟩ := hsin
  simp only [Flt.sl] at hF hg hs0 hff hf0 ⊢
  rw [hn] at hn0 hnc ⊢
  have HX := Lib.hid hn
  have HSL := Lib.hid hsl
  have HNI := Lib.hid hni
  have HG := Lib.hid hg
  have hb0 := bel1 w (.cells #[.slice a n c, .int .i64 id, .int .u32 g, .bool ex, .slice fa srcs.length fc, .int .i64 did, .bool fex, .slice ya ys.length yc] 40)
  have hb1 := bel1 (w.alloc (.cells #[.slice a n c, .int .i64 id, .int .u32 g, .bool ex, .slice fa srcs.length fc, .int .i64 did, .bool fex, .slice ya ys.length yc] 40)) (.cells #[.slice a n c] 36)
  have p := host_new (w.alloc (.cells #[.slice a n c, .int .i64 id, .int .u32 g, .bool ex, .slice fa srcs.length fc, .int .i64 did, .bool fex, .slice ya ys.length yc] 40)) (.slice a n c)
  have hb2 := bel1 ((w.alloc (.cells #[.slice a n c, .int .i64 id, .int .u32 g, .bool ex, .slice fa srcs.length fc, .int .i64 did, .bool fex, .slice ya ys.length yc] 40)).alloc (.cells #[.slice a n c] 36)) (.cells #[.int .i64 id, .int .u32 g, .bool ex, .slice fa srcs.length fc] 38)
  have q := sock_new ((w.alloc (.cells #[.slice a n c, .int .i64 id, .int .u32 g, .bool ex, .slice fa srcs.length fc, .int .i64 did, .bool fex, .slice ya ys.length yc] 40)).alloc (.cells #[.slice a n c] 36)) (.int .i64 id) (.int .u32 g) (.bool ex) (.slice fa srcs.length fc)
  have hb3 := bel1 (((w.alloc (.cells #[.slice a n c, .int .i64 id, .int .u32 g, .bool ex, .slice fa srcs.length fc, .int .i64 did, .bool fex, .slice ya ys.length yc] 40)).alloc (.cells #[.slice a n c] 36)).alloc (.cells #[.int .i64 id, .int .u32 g, .bool ex, .slice fa srcs.length fc] 38)) (.cells #[.bool fex, .slice ya ys.length yc] 25)
  have r := filt_new (((w.alloc (.cells #[.slice a n c, .int .i64 id, .int .u32 g, .bool ex, .slice fa srcs.length fc, .int .i64 did, .bool fex, .slice ya ys.length yc] 40)).alloc (.cells #[.slice a n c] 36)).alloc (.cells #[.int .i64 id, .int .u32 g, .bool ex, .slice fa srcs.length fc] 38)) (.bool fex) (.slice ya ys.length yc)
  rw [World.size_alloc] at p
  rw [World.size_alloc, World.size_alloc] at q
  rw [World.size_alloc, World.size_alloc, World.size_alloc] at r
  have C0 := Lib.hid ((hb3.cell (cell_lt ((hb2.cell (cell_lt p)).trans p))).trans ((hb2.cell (cell_lt p)).trans p))
  have Q0 := Lib.hid ((hb3.cell (cell_lt q.1)).trans q.1)
  have Q1 := Lib.hid ((hb3.cell (cell_lt q.2.1)).trans q.2.1)
  have Q2 := Lib.hid ((hb3.cell (cell_lt q.2.2.1)).trans q.2.2.1)
  have Q3 := Lib.hid ((hb3.cell (cell_lt q.2.2.2)).trans q.2.2.2)
  have R := Lib.hid r
  have hbb := ((hb0.trans (hb1.mono hb0.size)).trans (hb2.mono (hb0.trans (hb1.mono hb0.size)).size)).trans (hb3.mono ((hb0.trans (hb1.mono hb0.size)).trans (hb2.mono (hb0.trans (hb1.mono hb0.size)).size)).size)
  have BB := Lib.hid hbb
  have SS := Lib.hid (hS.below hbb)
  have SF := Lib.hid (hF.below hbb)
  have YF := Lib.hid (hff.below hbb)
  clear hn hS hsl hni hF hff hg hb0 hb1 hb2 hb3 p q r hbb
  go_enter Try.func4, Try.ntmps4
  go_wp2_with fail
  generalize (((w.alloc (.cells #[.slice a n c, .int .i64 id, .int .u32 g, .bool ex, .slice fa srcs.length fc, .int .i64 did, .bool fex, .slice ya ys.length yc] 40)).alloc (.cells #[.slice a n c] 36)).alloc (.cells #[.int .i64 id, .int .u32 g, .bool ex, .slice fa srcs.length fc] 38)).alloc (.cells #[.bool fex, .slice ya ys.length yc] 25) = w1 at *
  have c0 := C0.out
  have s0 := Q0.out
  have s1 := Q1.out
  have s2 := Q2.out
  have s3 := Q3.out
  obtain ⟨f0, f1⟩ := R.out
  clear C0 Q0 Q1 Q2 Q3 R
  refine (hShown _).mono ?_
  rintro e w101 ⟨rfl, hb⟩
  have BB := Lib.hid (BB.out.trans (hb.mono BB.out.size))
  have SS := Lib.hid (SS.out.below hb)
  have SF := Lib.hid (SF.out.below hb)
  have YF := Lib.hid (YF.out.below hb)
  replace c0 := (hb.cell (cell_lt c0)).trans c0
  replace s0 := (hb.cell (cell_lt s0)).trans s0
  replace s1 := (hb.cell (cell_lt s1)).trans s1
  replace s2 := (hb.cell (cell_lt s2)).trans s2
  replace s3 := (hb.cell (cell_lt s3)).trans s3
  replace f0 := (hb.cell (cell_lt f0)).trans f0
  replace f1 := (hb.cell (cell_lt f1)).trans f1
  clear hb
  go_wp2_with fail
  refine (rFewH a n c ss _ HX.out hn0 HSL.out SS.out).mono ?_
  rintro e w102 ⟨rfl, hb⟩
  have BB := Lib.hid (BB.out.trans (hb.mono BB.out.size))
  have SS := Lib.hid (SS.out.below hb)
  have SF := Lib.hid (SF.out.below hb)
  have YF := Lib.hid (YF.out.below hb)
  replace c0 := (hb.cell (cell_lt c0)).trans c0
  replace s0 := (hb.cell (cell_lt s0)).trans s0
  replace s1 := (hb.cell (cell_lt s1)).trans s1
  replace s2 := (hb.cell (cell_lt s2)).trans s2
  replace s3 := (hb.cell (cell_lt s3)).trans s3
  replace f0 := (hb.cell (cell_lt f0)).trans f0
  replace f1 := (hb.cell (cell_lt f1)).trans f1
  clear hb
  by_cases q1 : ss.length + fl ss ≤ 600
  · rw [decide_eq_true q1]
    have HQ1 := Lib.hid q1
    clear q1
    go_wp2_with fail
    refine (rRightH a n c ss _ HX.out hn0 (fun s hs => by have h1 := fl_mem hs; have h2 := HQ1.out; omega) SS.out).mono ?_
    rintro e w103 ⟨rfl, hb⟩
    have BB := Lib.hid (BB.out.trans (hb.mono BB.out.size))
    have SS := Lib.hid (SS.out.below hb)
    have SF := Lib.hid (SF.out.below hb)
    have YF := Lib.hid (YF.out.below hb)
    replace c0 := (hb.cell (cell_lt c0)).trans c0
    replace s0 := (hb.cell (cell_lt s0)).trans s0
    replace s1 := (hb.cell (cell_lt s1)).trans s1
    replace s2 := (hb.cell (cell_lt s2)).trans s2
    replace s3 := (hb.cell (cell_lt s3)).trans s3
    replace f0 := (hb.cell (cell_lt f0)).trans f0
    replace f1 := (hb.cell (cell_lt f1)).trans f1
    clear hb
    by_cases q2 : okH ss
    · rw [decide_eq_true q2]
      have HOK := Lib.hid q2
      have HFW := Lib.hid (okH_few q2)
      have hn32 : n ≤ 32 := by rw [← HX.out]; exact q2.2.2
      clear q2
      by_cases q3 : srcs.length + ys.length ≤ 100
      · have q3' : decide ((100 : Int) < (srcs.length : Int) + (ys.length : Int)) = false := decide_eq_false (by omega)
        go_wp2_with fail
        have hP := hPut a n c ss ⟨id, g, ⟨ex, srcs, fa, fc⟩⟩ w103 HX.out (by omega) hnc HNI.out HOK.out.2.1 HFW.out (by show srcs.length ≤ _; omega) SS.out SF.out HG.out
        simp only [Flt.sl] at hP
        refine hP.mono ?_
        rintro e w104 ⟨⟨a5, c5, ss5, p5, d5, rs5, rfl, ⟨h1, h2, h3, h4⟩, m1, k1, n1⟩, hb⟩
        have N5 := Lib.hid h1
        have T5 := Lib.hid h2
        have M5 := Lib.hid m1
        have R5 := Lib.hid k1
        clear h1 h2 m1 k1 hP h3 h4 n1
        have BB := Lib.hid (BB.out.trans (hb.mono BB.out.size))
        have SS := Lib.hid (SS.out.below hb)
        have SF := Lib.hid (SF.out.below hb)
        have YF := Lib.hid (YF.out.below hb)
        replace c0 := (hb.cell (cell_lt c0)).trans c0
        replace s0 := (hb.cell (cell_lt s0)).trans s0
        replace s1 := (hb.cell (cell_lt s1)).trans s1
        replace s2 := (hb.cell (cell_lt s2)).trans s2
        replace s3 := (hb.cell (cell_lt s3)).trans s3
        replace f0 := (hb.cell (cell_lt f0)).trans f0
        replace f1 := (hb.cell (cell_lt f1)).trans f1
        clear hb
        obtain ⟨er5, her⟩ : ∃ er, putE ss ⟨id, g, ⟨ex, srcs, fa, fc⟩⟩ = er := ⟨_, rfl⟩
        rw [her]
        have HER5 := Lib.hid her
        obtain ⟨n5, hn5⟩ : ∃ n, ss5.length = n := ⟨_, rfl⟩
        obtain ⟨r5, hr5⟩ : ∃ r, rs5.length = r := ⟨_, rfl⟩
        rw [hn5, hr5]
        have HN5 := Lib.hid hn5
        have HR5 := Lib.hid hr5
        have HF5 := Lib.hid (fewS_nm N5.out (okH_few (putH_ok HOK.out)))
        have HQ5 := Lib.hid (rcs_few M5.out (putS_few HOK.out))
        clear her hn5 hr5
        have hbn := bel1 w104 (.cells #[.slice a5 n5 c5] 36)
        have b5 := host_new w104 (.slice a5 n5 c5)
        have SS := Lib.hid (SS.out.below hbn)
        have SF := Lib.hid (SF.out.below hbn)
        have YF := Lib.hid (YF.out.below hbn)
        have T5 := Lib.hid (T5.out.below hbn)
        have R5 := Lib.hid (R5.out.below hbn)
        have BB := Lib.hid (BB.out.trans (hbn.mono BB.out.size))
        replace c0 := (hbn.cell (cell_lt c0)).trans c0
        replace s0 := (hbn.cell (cell_lt s0)).trans s0
        replace s1 := (hbn.cell (cell_lt s1)).trans s1
        replace s2 := (hbn.cell (cell_lt s2)).trans s2
        replace s3 := (hbn.cell (cell_lt s3)).trans s3
        replace f0 := (hbn.cell (cell_lt f0)).trans f0
        replace f1 := (hbn.cell (cell_lt f1)).trans f1
        clear hbn
        go_wp2_with fail
        generalize w104.alloc (.cells #[.slice a5 n5 c5] 36) = v5 at *
        have hP := rPut a n c ss ⟨id, g, ⟨ex, srcs, fa, fc⟩⟩ v5 HX.out hn32 HOK.out.2.1 (okH_fewI HOK.out) SS.out SF.out (by show srcs.length ≤ _; omega) HG.out
        simp only [Flt.sl] at hP
        refine hP.mono ?_
        rintro e w105 ⟨⟨a6, c6, ss6, p6, d6, rs6, rfl, ⟨h1, h2⟩, m1, k1⟩, hb⟩
        have N6 := Lib.hid h1
        have T6 := Lib.hid h2
        have M6 := Lib.hid m1
        have R6 := Lib.hid k1
        clear h1 h2 m1 k1 hP
        have BB := Lib.hid (BB.out.trans (hb.mono BB.out.size))
        have SS := Lib.hid (SS.out.below hb)
        have SF := Lib.hid (SF.out.below hb)
        have YF := Lib.hid (YF.out.below hb)
        have T5 := Lib.hid (T5.out.below hb)
        have R5 := Lib.hid (R5.out.below hb)
        replace c0 := (hb.cell (cell_lt c0)).trans c0
        replace s0 := (hb.cell (cell_lt s0)).trans s0
        replace s1 := (hb.cell (cell_lt s1)).trans s1
        replace s2 := (hb.cell (cell_lt s2)).trans s2
        replace s3 := (hb.cell (cell_lt s3)).trans s3
        replace f0 := (hb.cell (cell_lt f0)).trans f0
        replace f1 := (hb.cell (cell_lt f1)).trans f1
        replace b5 := (hb.cell (cell_lt b5)).trans b5
        clear hb
        obtain ⟨er6, her⟩ : ∃ er, putE ss ⟨id, g, ⟨ex, srcs, fa, fc⟩⟩ = er := ⟨_, rfl⟩
        rw [her]
        have HER6 := Lib.hid her
        obtain ⟨n6, hn6⟩ : ∃ n, ss6.length = n := ⟨_, rfl⟩
        obtain ⟨r6, hr6⟩ : ∃ r, rs6.length = r := ⟨_, rfl⟩
        rw [hn6, hr6]
        have HN6 := Lib.hid hn6
        have HR6 := Lib.hid hr6
        have HF6 := Lib.hid (fewS_nm N6.out (okH_few (putH_ok HOK.out)))
        have HQ6 := Lib.hid (rcs_few M6.out (putS_few HOK.out))
        clear her hn6 hr6
        have hbn := bel1 w105 (.cells #[.slice a6 n6 c6] 36)
        have b6 := host_new w105 (.slice a6 n6 c6)
        have SS := Lib.hid (SS.out.below hbn)
        have SF := Lib.hid (SF.out.below hbn)
        have YF := Lib.hid (YF.out.below hbn)
        have T5 := Lib.hid (T5.out.below hbn)
        have R5 := Lib.hid (R5.out.below hbn)
        have T6 := Lib.hid (T6.out.below hbn)
        have R6 := Lib.hid (R6.out.below hbn)
        have BB := Lib.hid (BB.out.trans (hbn.mono BB.out.size))
        replace c0 := (hbn.cell (cell_lt c0)).trans c0
        replace s0 := (hbn.cell (cell_lt s0)).trans s0
        replace s1 := (hbn.cell (cell_lt s1)).trans s1
        replace s2 := (hbn.cell (cell_lt s2)).trans s2
        replace s3 := (hbn.cell (cell_lt s3)).trans s3
        replace f0 := (hbn.cell (cell_lt f0)).trans f0
        replace f1 := (hbn.cell (cell_lt f1)).trans f1
        replace b5 := (hbn.cell (cell_lt b5)).trans b5
        clear hbn
        go_wp2_with fail
        generalize w105.alloc (.cells #[.slice a6 n6 c6] 36) = v6 at *
        have hP := hDrop a n c ss did v6 HX.out (by omega) hnc HNI.out HOK.out.2.1 HFW.out SS.out
        refine hP.mono ?_
        rintro e w106 ⟨⟨a7, c7, ss7, p7, d7, rs7, rfl, ⟨h1, h2, h3, h4⟩, m1, k1, n1⟩, hb⟩
        have N7 := Lib.hid h1
        have T7 := Lib.hid h2
        have M7 := Lib.hid m1
        have R7 := Lib.hid k1
        clear h1 h2 m1 k1 hP h3 h4 n1
        have BB := Lib.hid (BB.out.trans (hb.mono BB.out.size))
        have SS := Lib.hid (SS.out.below hb)
        have SF := Lib.hid (SF.out.below hb)
        have YF := Lib.hid (YF.out.below hb)
        have T5 := Lib.hid (T5.out.below hb)
        have R5 := Lib.hid (R5.out.below hb)
        have T6 := Lib.hid (T6.out.below hb)
        have R6 := Lib.hid (R6.out.below hb)
        replace c0 := (hb.cell (cell_lt c0)).trans c0
        replace s0 := (hb.cell (cell_lt s0)).trans s0
        replace s1 := (hb.cell (cell_lt s1)).trans s1
        replace s2 := (hb.cell (cell_lt s2)).trans s2
        replace s3 := (hb.cell (cell_lt s3)).trans s3
        replace f0 := (hb.cell (cell_lt f0)).trans f0
        replace f1 := (hb.cell (cell_lt f1)).trans f1
        replace b5 := (hb.cell (cell_lt b5)).trans b5
        replace b6 := (hb.cell (cell_lt b6)).trans b6
        clear hb
        obtain ⟨er7, her⟩ : ∃ er, dropE ss did = er := ⟨_, rfl⟩
        rw [her]
        have HER7 := Lib.hid her
        obtain ⟨n7, hn7⟩ : ∃ n, ss7.length = n := ⟨_, rfl⟩
        obtain ⟨r7, hr7⟩ : ∃ r, rs7.length = r := ⟨_, rfl⟩
        rw [hn7, hr7]
        have HN7 := Lib.hid hn7
        have HR7 := Lib.hid hr7
        have HF7 := Lib.hid (fewS_nm N7.out (dropH_few HFW.out))
        have HQ7 := Lib.hid (rcs_few M7.out (dropS_few HFW.out))
        clear her hn7 hr7
        have hbn := bel1 w106 (.cells #[.slice a7 n7 c7] 36)
        have b7 := host_new w106 (.slice a7 n7 c7)
        have SS := Lib.hid (SS.out.below hbn)
        have SF := Lib.hid (SF.out.below hbn)
        have YF := Lib.hid (YF.out.below hbn)
        have T5 := Lib.hid (T5.out.below hbn)
        have R5 := Lib.hid (R5.out.below hbn)
        have T6 := Lib.hid (T6.out.below hbn)
        have R6 := Lib.hid (R6.out.below hbn)
        have T7 := Lib.hid (T7.out.below hbn)
        have R7 := Lib.hid (R7.out.below hbn)
        have BB := Lib.hid (BB.out.trans (hbn.mono BB.out.size))
        replace c0 := (hbn.cell (cell_lt c0)).trans c0
        replace s0 := (hbn.cell (cell_lt s0)).trans s0
        replace s1 := (hbn.cell (cell_lt s1)).trans s1
        replace s2 := (hbn.cell (cell_lt s2)).trans s2
        replace s3 := (hbn.cell (cell_lt s3)).trans s3
        replace f0 := (hbn.cell (cell_lt f0)).trans f0
        replace f1 := (hbn.cell (cell_lt f1)).trans f1
        replace b5 := (hbn.cell (cell_lt b5)).trans b5
        replace b6 := (hbn.cell (cell_lt b6)).trans b6
        clear hbn
        go_wp2_with fail
        generalize w106.alloc (.cells #[.slice a7 n7 c7] 36) = v7 at *
        have hP := rDrop a n c ss did v7 HX.out hnc HNI.out HOK.out.2.1 (ok_g0 HOK.out) (okH_fewI HOK.out) SS.out
        refine hP.mono ?_
        rintro e w107 ⟨⟨a8, c8, ss8, p8, d8, rs8, rfl, ⟨h1, h2⟩, m1, k1⟩, hb⟩
        have N8 := Lib.hid h1
        have T8 := Lib.hid h2
        have M8 := Lib.hid m1
        have R8 := Lib.hid k1
        clear h1 h2 m1 k1 hP
        have BB := Lib.hid (BB.out.trans (hb.mono BB.out.size))
        have SS := Lib.hid (SS.out.below hb)
        have SF := Lib.hid (SF.out.below hb)
        have YF := Lib.hid (YF.out.below hb)
        have T5 := Lib.hid (T5.out.below hb)
        have R5 := Lib.hid (R5.out.below hb)
        have T6 := Lib.hid (T6.out.below hb)
        have R6 := Lib.hid (R6.out.below hb)
        have T7 := Lib.hid (T7.out.below hb)
        have R7 := Lib.hid (R7.out.below hb)
        replace c0 := (hb.cell (cell_lt c0)).trans c0
        replace s0 := (hb.cell (cell_lt s0)).trans s0
        replace s1 := (hb.cell (cell_lt s1)).trans s1
        replace s2 := (hb.cell (cell_lt s2)).trans s2
        replace s3 := (hb.cell (cell_lt s3)).trans s3
        replace f0 := (hb.cell (cell_lt f0)).trans f0
        replace f1 := (hb.cell (cell_lt f1)).trans f1
        replace b5 := (hb.cell (cell_lt b5)).trans b5
        replace b6 := (hb.cell (cell_lt b6)).trans b6
        replace b7 := (hb.cell (cell_lt b7)).trans b7
        clear hb
        obtain ⟨er8, her⟩ : ∃ er, dropE ss did = er := ⟨_, rfl⟩
        rw [her]
        have HER8 := Lib.hid her
        obtain ⟨n8, hn8⟩ : ∃ n, ss8.length = n := ⟨_, rfl⟩
        obtain ⟨r8, hr8⟩ : ∃ r, rs8.length = r := ⟨_, rfl⟩
        rw [hn8, hr8]
        have HN8 := Lib.hid hn8
        have HR8 := Lib.hid hr8
        have HF8 := Lib.hid (fewS_nm N8.out (dropH_few HFW.out))
        have HQ8 := Lib.hid (rcs_few M8.out (dropS_few HFW.out))
        clear her hn8 hr8
        have hbn := bel1 w107 (.cells #[.slice a8 n8 c8] 36)
        have b8 := host_new w107 (.slice a8 n8 c8)
        have SS := Lib.hid (SS.out.below hbn)
        have SF := Lib.hid (SF.out.below hbn)
        have YF := Lib.hid (YF.out.below hbn)
        have T5 := Lib.hid (T5.out.below hbn)
        have R5 := Lib.hid (R5.out.below hbn)
        have T6 := Lib.hid (T6.out.below hbn)
        have R6 := Lib.hid (R6.out.below hbn)
        have T7 := Lib.hid (T7.out.below hbn)
        have R7 := Lib.hid (R7.out.below hbn)
        have T8 := Lib.hid (T8.out.below hbn)
        have R8 := Lib.hid (R8.out.below hbn)
        have BB := Lib.hid (BB.out.trans (hbn.mono BB.out.size))
        replace c0 := (hbn.cell (cell_lt c0)).trans c0
        replace s0 := (hbn.cell (cell_lt s0)).trans s0
        replace s1 := (hbn.cell (cell_lt s1)).trans s1
        replace s2 := (hbn.cell (cell_lt s2)).trans s2
        replace s3 := (hbn.cell (cell_lt s3)).trans s3
        replace f0 := (hbn.cell (cell_lt f0)).trans f0
        replace f1 := (hbn.cell (cell_lt f1)).trans f1
        replace b5 := (hbn.cell (cell_lt b5)).trans b5
        replace b6 := (hbn.cell (cell_lt b6)).trans b6
        replace b7 := (hbn.cell (cell_lt b7)).trans b7
        clear hbn
        have E6 : er5 = er6 := by rw [← HER5.out, ← HER6.out]
        have E8 : er7 = er8 := by rw [← HER7.out, ← HER8.out]
        subst E6 E8
        have e5 : (er5 != er5) = false := by simp
        have e7 : (er7 != er7) = false := by simp
        have HS56 : Hid (ss5.map Sk.nm = ss6.map Sk.nm) := Lib.hid (N5.out.trans N6.out.symm)
        have HS78 : Hid (ss7.map Sk.nm = ss8.map Sk.nm) := Lib.hid (N7.out.trans N8.out.symm)
        have HM56 : Hid (rs5.map Rc.nm = rs6.map Rc.nm) := Lib.hid (M5.out.trans M6.out.symm)
        have HM78 : Hid (rs7.map Rc.nm = rs8.map Rc.nm) := Lib.hid (M7.out.trans M8.out.symm)
        go_wp2_with fail
        generalize w107.alloc (.cells #[.slice a8 n8 c8] 36) = v8 at *
        refine (rSameH a5 a6 n5 n6 c5 c6 ss5 ss6 _ HN5.out HN6.out (by have := HF5.out.1; rw [HN5.out] at this; omega) (by have := HF6.out.1; rw [HN6.out] at this; omega) (fun s hs => by have := HF5.out.2 s hs; omega) (fun s hs => by have := HF6.out.2 s hs; omega) T5.out T6.out).mono ?_
        rintro e w108 ⟨rfl, hb⟩
        have BB := Lib.hid (BB.out.trans (hb.mono BB.out.size))
        have SS := Lib.hid (SS.out.below hb)
        have SF := Lib.hid (SF.out.below hb)
        have YF := Lib.hid (YF.out.below hb)
        have T5 := Lib.hid (T5.out.below hb)
        have R5 := Lib.hid (R5.out.below hb)
        have T6 := Lib.hid (T6.out.below hb)
        have R6 := Lib.hid (R6.out.below hb)
        have T7 := Lib.hid (T7.out.below hb)
        have R7 := Lib.hid (R7.out.below hb)
        have T8 := Lib.hid (T8.out.below hb)
        have R8 := Lib.hid (R8.out.below hb)
        replace c0 := (hb.cell (cell_lt c0)).trans c0
        replace s0 := (hb.cell (cell_lt s0)).trans s0
        replace s1 := (hb.cell (cell_lt s1)).trans s1
        replace s2 := (hb.cell (cell_lt s2)).trans s2
        replace s3 := (hb.cell (cell_lt s3)).trans s3
        replace f0 := (hb.cell (cell_lt f0)).trans f0
        replace f1 := (hb.cell (cell_lt f1)).trans f1
        replace b5 := (hb.cell (cell_lt b5)).trans b5
        replace b6 := (hb.cell (cell_lt b6)).trans b6
        replace b7 := (hb.cell (cell_lt b7)).trans b7
        replace b8 := (hb.cell (cell_lt b8)).trans b8
        clear hb
        rw [decide_eq_true HS56.out]
        go_wp2_with fail
        refine (rRecs p5 p6 r5 r6 d5 d6 rs5 rs6 _ HR5.out HR6.out (by have := HQ5.out.1; rw [HR5.out] at this; omega) (by have := HQ6.out.1; rw [HR6.out] at this; omega) HQ5.out.2 R5.out R6.out).mono ?_
        rintro e w109 ⟨rfl, hb⟩
        have BB := Lib.hid (BB.out.trans (hb.mono BB.out.size))
        have SS := Lib.hid (SS.out.below hb)
        have SF := Lib.hid (SF.out.below hb)
        have YF := Lib.hid (YF.out.below hb)
        have T5 := Lib.hid (T5.out.below hb)
        have R5 := Lib.hid (R5.out.below hb)
        have T6 := Lib.hid (T6.out.below hb)
        have R6 := Lib.hid (R6.out.below hb)
        have T7 := Lib.hid (T7.out.below hb)
        have R7 := Lib.hid (R7.out.below hb)
        have T8 := Lib.hid (T8.out.below hb)
        have R8 := Lib.hid (R8.out.below hb)
        replace c0 := (hb.cell (cell_lt c0)).trans c0
        replace s0 := (hb.cell (cell_lt s0)).trans s0
        replace s1 := (hb.cell (cell_lt s1)).trans s1
        replace s2 := (hb.cell (cell_lt s2)).trans s2
        replace s3 := (hb.cell (cell_lt s3)).trans s3
        replace f0 := (hb.cell (cell_lt f0)).trans f0
        replace f1 := (hb.cell (cell_lt f1)).trans f1
        replace b5 := (hb.cell (cell_lt b5)).trans b5
        replace b6 := (hb.cell (cell_lt b6)).trans b6
        replace b7 := (hb.cell (cell_lt b7)).trans b7
        replace b8 := (hb.cell (cell_lt b8)).trans b8
        clear hb
        rw [decide_eq_true HM56.out]
        go_wp2_with fail
        refine (rSameH a7 a8 n7 n8 c7 c8 ss7 ss8 _ HN7.out HN8.out (by have := HF7.out.1; rw [HN7.out] at this; omega) (by have := HF8.out.1; rw [HN8.out] at this; omega) (fun s hs => by have := HF7.out.2 s hs; omega) (fun s hs => by have := HF8.out.2 s hs; omega) T7.out T8.out).mono ?_
        rintro e w110 ⟨rfl, hb⟩
        have BB := Lib.hid (BB.out.trans (hb.mono BB.out.size))
        have SS := Lib.hid (SS.out.below hb)
        have SF := Lib.hid (SF.out.below hb)
        have YF := Lib.hid (YF.out.below hb)
        have T5 := Lib.hid (T5.out.below hb)
        have R5 := Lib.hid (R5.out.below hb)
        have T6 := Lib.hid (T6.out.below hb)
        have R6 := Lib.hid (R6.out.below hb)
        have T7 := Lib.hid (T7.out.below hb)
        have R7 := Lib.hid (R7.out.below hb)
        have T8 := Lib.hid (T8.out.below hb)
        have R8 := Lib.hid (R8.out.below hb)
        replace c0 := (hb.cell (cell_lt c0)).trans c0
        replace s0 := (hb.cell (cell_lt s0)).trans s0
        replace s1 := (hb.cell (cell_lt s1)).trans s1
        replace s2 := (hb.cell (cell_lt s2)).trans s2
        replace s3 := (hb.cell (cell_lt s3)).trans s3
        replace f0 := (hb.cell (cell_lt f0)).trans f0
        replace f1 := (hb.cell (cell_lt f1)).trans f1
        replace b5 := (hb.cell (cell_lt b5)).trans b5
        replace b6 := (hb.cell (cell_lt b6)).trans b6
        replace b7 := (hb.cell (cell_lt b7)).trans b7
        replace b8 := (hb.cell (cell_lt b8)).trans b8
        clear hb
        rw [decide_eq_true HS78.out]
        go_wp2_with fail
        refine (rRecs p7 p8 r7 r8 d7 d8 rs7 rs8 _ HR7.out HR8.out (by have := HQ7.out.1; rw [HR7.out] at this; omega) (by have := HQ8.out.1; rw [HR8.out] at this; omega) HQ7.out.2 R7.out R8.out).mono ?_
        rintro e w111 ⟨rfl, hb⟩
        have BB := Lib.hid (BB.out.trans (hb.mono BB.out.size))
        have SS := Lib.hid (SS.out.below hb)
        have SF := Lib.hid (SF.out.below hb)
        have YF := Lib.hid (YF.out.below hb)
        have T5 := Lib.hid (T5.out.below hb)
        have R5 := Lib.hid (R5.out.below hb)
        have T6 := Lib.hid (T6.out.below hb)
        have R6 := Lib.hid (R6.out.below hb)
        have T7 := Lib.hid (T7.out.below hb)
        have R7 := Lib.hid (R7.out.below hb)
        have T8 := Lib.hid (T8.out.below hb)
        have R8 := Lib.hid (R8.out.below hb)
        replace c0 := (hb.cell (cell_lt c0)).trans c0
        replace s0 := (hb.cell (cell_lt s0)).trans s0
        replace s1 := (hb.cell (cell_lt s1)).trans s1
        replace s2 := (hb.cell (cell_lt s2)).trans s2
        replace s3 := (hb.cell (cell_lt s3)).trans s3
        replace f0 := (hb.cell (cell_lt f0)).trans f0
        replace f1 := (hb.cell (cell_lt f1)).trans f1
        replace b5 := (hb.cell (cell_lt b5)).trans b5
        replace b6 := (hb.cell (cell_lt b6)).trans b6
        replace b7 := (hb.cell (cell_lt b7)).trans b7
        replace b8 := (hb.cell (cell_lt b8)).trans b8
        clear hb
        rw [decide_eq_true HM78.out]
        go_wp2_with fail
        refine (rRight ya ys.length yc ys _ rfl (by omega) YF.out.1).mono ?_
        rintro e w112 ⟨rfl, hb⟩
        have BB := Lib.hid (BB.out.trans (hb.mono BB.out.size))
        have SS := Lib.hid (SS.out.below hb)
        have SF := Lib.hid (SF.out.below hb)
        have YF := Lib.hid (YF.out.below hb)
        have T5 := Lib.hid (T5.out.below hb)
        have R5 := Lib.hid (R5.out.below hb)
        have T6 := Lib.hid (T6.out.below hb)
        have R6 := Lib.hid (R6.out.below hb)
        have T7 := Lib.hid (T7.out.below hb)
        have R7 := Lib.hid (R7.out.below hb)
        have T8 := Lib.hid (T8.out.below hb)
        have R8 := Lib.hid (R8.out.below hb)
        replace c0 := (hb.cell (cell_lt c0)).trans c0
        replace s0 := (hb.cell (cell_lt s0)).trans s0
        replace s1 := (hb.cell (cell_lt s1)).trans s1
        replace s2 := (hb.cell (cell_lt s2)).trans s2
        replace s3 := (hb.cell (cell_lt s3)).trans s3
        replace f0 := (hb.cell (cell_lt f0)).trans f0
        replace f1 := (hb.cell (cell_lt f1)).trans f1
        replace b5 := (hb.cell (cell_lt b5)).trans b5
        replace b6 := (hb.cell (cell_lt b6)).trans b6
        replace b7 := (hb.cell (cell_lt b7)).trans b7
        replace b8 := (hb.cell (cell_lt b8)).trans b8
        clear hb
        by_cases i1 : Inc ys
        · rw [decide_eq_true i1]
          have I1 := Lib.hid i1
          clear i1
          go_wp2_with fail
          refine (rRight fa srcs.length fc srcs _ rfl (by omega) SF.out.1).mono ?_
          rintro e w113 ⟨rfl, hb⟩
          have BB := Lib.hid (BB.out.trans (hb.mono BB.out.size))
          have SS := Lib.hid (SS.out.below hb)
          have SF := Lib.hid (SF.out.below hb)
          have YF := Lib.hid (YF.out.below hb)
          have T5 := Lib.hid (T5.out.below hb)
          have R5 := Lib.hid (R5.out.below hb)
          have T6 := Lib.hid (T6.out.below hb)
          have R6 := Lib.hid (R6.out.below hb)
          have T7 := Lib.hid (T7.out.below hb)
          have R7 := Lib.hid (R7.out.below hb)
          have T8 := Lib.hid (T8.out.below hb)
          have R8 := Lib.hid (R8.out.below hb)
          replace c0 := (hb.cell (cell_lt c0)).trans c0
          replace s0 := (hb.cell (cell_lt s0)).trans s0
          replace s1 := (hb.cell (cell_lt s1)).trans s1
          replace s2 := (hb.cell (cell_lt s2)).trans s2
          replace s3 := (hb.cell (cell_lt s3)).trans s3
          replace f0 := (hb.cell (cell_lt f0)).trans f0
          replace f1 := (hb.cell (cell_lt f1)).trans f1
          replace b5 := (hb.cell (cell_lt b5)).trans b5
          replace b6 := (hb.cell (cell_lt b6)).trans b6
          replace b7 := (hb.cell (cell_lt b7)).trans b7
          replace b8 := (hb.cell (cell_lt b8)).trans b8
          clear hb
          by_cases i2 : Inc srcs
          · rw [decide_eq_true i2]
            have I2 := Lib.hid i2
            clear i2
            go_wp2_with fail
            have K1 := Lib.hid s1
            have K2 := Lib.hid s2
            have K3 := Lib.hid s3
            have F0 := Lib.hid f0
            have F1 := Lib.hid f1
            have HCF := Lib.hid (change_few (g := g) (e1 := fex) (e2 := ex) (xs := ys) (ys := srcs) (by omega) (by omega))
            refine wp_region_each3 (hcV w.heap.size g fex ex ya fa ys.length srcs.length yc fc (change g fex ys ex srcs)) (fun W => Below w113.heap.size w113 W) (fun _ A B => Below A.heap.size A B) hcD [121, 122, 123, 124, 125, 126, 127, 128, 129, 130, 131, 132, 133, 134, 135, 136, 2] (by kernel_rfl) (by kernel_rfl) (by kernel_rfl) (Below.refl _ w113).drew
              (fun i j oi oj v us A B hoi hoj hij hw hSA hr hv => hc_st _ _ _ _ _ _ _ _ _ _ _ hr hv) ?hgd
              ⟨?_, ?_, ?_, ?_, ?_, ?_, ?_, ?_, ?_, ?_, ?_, ?_, ?_, ?_, ?_, ?_, ?_, trivial⟩ ?hend
            case hgd =>
              intro i o g b hoi hog v us w hv
              have hi : i < 17 := (Array.getElem?_eq_some_iff.1 hoi).1
              have hc : i = 0 ∨ i = 1 ∨ i = 2 ∨ i = 3 ∨ i = 4 ∨ i = 5 ∨ i = 6 ∨ i = 7 ∨ i = 8 ∨ i = 9 ∨ i = 10 ∨ i = 11 ∨ i = 12 ∨ i = 13 ∨ i = 14 ∨ i = 15 ∨ i = 16 := by omega
              rcases hc with rfl | rfl | rfl | rfl | rfl | rfl | rfl | rfl | rfl | rfl | rfl | rfl | rfl | rfl | rfl | rfl | rfl
              · cases hoi; cases hog
              · cases hoi; cases hog
              · cases hoi; cases hog; exact hv
              · cases hoi; cases hog; exact hv
              · cases hoi; cases hog; exact hv
              · cases hoi; cases hog; exact hv
              · cases hoi; cases hog; exact hv
              · cases hoi; cases hog; exact hv
              · cases hoi; cases hog; exact hv
              · cases hoi; cases hog; exact hv
              · cases hoi; cases hog; exact hv
              · cases hoi; cases hog; exact hv
              · cases hoi; cases hog; exact hv
              · cases hoi; cases hog; exact hv
              · cases hoi; cases hog; exact hv
              · cases hoi; cases hog
              · cases hoi; cases hog
            case refine_1 =>
              intro a' w9 hS h0 hd
              have e7 : a'.tmps[7]?.getD undef = .bool true := evG (h0 7 (by kernel_rfl))
              refine Does2.value (.bool true) (w' := w9) ?_ ⟨rfl, hS, Below.refl _ _⟩
              clear hS h0 hd
              go_simp
            case refine_2 =>
              intro a' w9 hS h0 hd
              have e121 : a'.tmps[121]?.getD undef = .bool true := evG (hd 0 List.mem_cons_self)
              refine Does2.value (.bool true) (w' := w9) ?_ ⟨rfl, hS, Below.refl _ _⟩
              clear hS h0 hd
              go_simp
            case refine_3 =>
              intro a' w9 hS h0 hd
              have e4 : a'.tmps[4]?.getD undef = .pointer (some ⟨w.heap.size + 1 + 1, 0, none⟩) := evG (h0 4 (by kernel_rfl))
              refine Does2.value (.pointer (some ⟨w.heap.size + 1 + 1, 1, none⟩)) (w' := w9) ?_ ⟨rfl, hS, Below.refl _ _⟩
              clear hS h0 hd
              go_simp
            case refine_4 =>
              intro a' w9 hS h0 hd
              have e123 : a'.tmps[123]?.getD undef = .pointer (some ⟨w.heap.size + 1 + 1, 1, none⟩) := evG (hd 2 List.mem_cons_self)
              have e9 := (hS.cell (cell_lt K1.out)).trans K1.out
              refine Does2.value (.int .u32 g) (w' := w9) ?_ ⟨rfl, hS, Below.refl _ _⟩
              clear hS h0 hd
              go_simp
            case refine_5 =>
              intro a' w9 hS h0 hd
              have e6 : a'.tmps[6]?.getD undef = .pointer (some ⟨w.heap.size + 1 + 1 + 1, 0, none⟩) := evG (h0 6 (by kernel_rfl))
              have e9 := (hS.cell (cell_lt F0.out)).trans F0.out
              have e8 := (hS.cell (cell_lt F1.out)).trans F1.out
              refine Does2.value (.agg #[.bool fex, .slice ya ys.length yc]) (w' := w9) ?_ ⟨rfl, hS, Below.refl _ _⟩
              clear hS h0 hd
              go_simp
            case refine_6 =>
              intro a' w9 hS h0 hd
              have e4 : a'.tmps[4]?.getD undef = .pointer (some ⟨w.heap.size + 1 + 1, 0, none⟩) := evG (h0 4 (by kernel_rfl))
              refine Does2.value (.pointer (some ⟨w.heap.size + 1 + 1, 2, none⟩)) (w' := w9) ?_ ⟨rfl, hS, Below.refl _ _⟩
              clear hS h0 hd
              go_simp
            case refine_7 =>
              intro a' w9 hS h0 hd
              have e126 : a'.tmps[126]?.getD undef = .pointer (some ⟨w.heap.size + 1 + 1, 2, none⟩) := evG (hd 5 List.mem_cons_self)
              have e9 := (hS.cell (cell_lt K2.out)).trans K2.out
              have e8 := (hS.cell (cell_lt K3.out)).trans K3.out
              refine Does2.value (.agg #[.bool ex, .slice fa srcs.length fc]) (w' := w9) ?_ ⟨rfl, hS, Below.refl _ _⟩
              clear hS h0 hd
              go_simp
            case refine_8 =>
              intro a' w9 hS h0 hd
              have e124 : a'.tmps[124]?.getD undef = .int .u32 g := evG (hd 3 List.mem_cons_self)
              have e125 : a'.tmps[125]?.getD undef = .agg #[.bool fex, .slice ya ys.length yc] := evG (hd 4 (List.mem_cons_of_mem _ List.mem_cons_self))
              have e127 : a'.tmps[127]?.getD undef = .agg #[.bool ex, .slice fa srcs.length fc] := evG (hd 6 (List.mem_cons_of_mem _ (List.mem_cons_of_mem _ List.mem_cons_self)))
              refine Does2.call 26 #[.int .u32 g, .agg #[.bool fex, .slice ya ys.length yc], .agg #[.bool ex, .slice fa srcs.length fc]] (w' := w9) ?_ ((hChange g fex ex ya fa _ _ yc fc ys srcs w9 rfl rfl (by omega) (by omega) (YF.out.1.below hS) (SF.out.1.below hS) SF.out.2).mono ?_)
              · clear hS h0 hd
                go_simp
              · rintro e w8 ⟨⟨b8, d8, rs8, rfl, m8, k8, n8⟩, hb⟩
                exact ⟨_, rfl, ⟨b8, d8, rs8, rfl, m8, k8⟩, hS.trans (hb.mono hS.size), hb⟩
            case refine_9 =>
              intro a' w9 hS h0 hd
              have e4 : a'.tmps[4]?.getD undef = .pointer (some ⟨w.heap.size + 1 + 1, 0, none⟩) := evG (h0 4 (by kernel_rfl))
              refine Does2.value (.pointer (some ⟨w.heap.size + 1 + 1, 1, none⟩)) (w' := w9) ?_ ⟨rfl, hS, Below.refl _ _⟩
              clear hS h0 hd
              go_simp
            case refine_10 =>
              intro a' w9 hS h0 hd
              have e129 : a'.tmps[129]?.getD undef = .pointer (some ⟨w.heap.size + 1 + 1, 1, none⟩) := evG (hd 8 List.mem_cons_self)
              have e9 := (hS.cell (cell_lt K1.out)).trans K1.out
              refine Does2.value (.int .u32 g) (w' := w9) ?_ ⟨rfl, hS, Below.refl _ _⟩
              clear hS h0 hd
              go_simp
            case refine_11 =>
              intro a' w9 hS h0 hd
              have e6 : a'.tmps[6]?.getD undef = .pointer (some ⟨w.heap.size + 1 + 1 + 1, 0, none⟩) := evG (h0 6 (by kernel_rfl))
              have e9 := (hS.cell (cell_lt F0.out)).trans F0.out
              have e8 := (hS.cell (cell_lt F1.out)).trans F1.out
              refine Does2.value (.agg #[.bool fex, .slice ya ys.length yc]) (w' := w9) ?_ ⟨rfl, hS, Below.refl _ _⟩
              clear hS h0 hd
              go_simp
            case refine_12 =>
              intro a' w9 hS h0 hd
              have e4 : a'.tmps[4]?.getD undef = .pointer (some ⟨w.heap.size + 1 + 1, 0, none⟩) := evG (h0 4 (by kernel_rfl))
              refine Does2.value (.pointer (some ⟨w.heap.size + 1 + 1, 2, none⟩)) (w' := w9) ?_ ⟨rfl, hS, Below.refl _ _⟩
              clear hS h0 hd
              go_simp
            case refine_13 =>
              intro a' w9 hS h0 hd
              have e132 : a'.tmps[132]?.getD undef = .pointer (some ⟨w.heap.size + 1 + 1, 2, none⟩) := evG (hd 11 List.mem_cons_self)
              have e9 := (hS.cell (cell_lt K2.out)).trans K2.out
              have e8 := (hS.cell (cell_lt K3.out)).trans K3.out
              refine Does2.value (.agg #[.bool ex, .slice fa srcs.length fc]) (w' := w9) ?_ ⟨rfl, hS, Below.refl _ _⟩
              clear hS h0 hd
              go_simp
            case refine_14 =>
              intro a' w9 hS h0 hd
              have e130 : a'.tmps[130]?.getD undef = .int .u32 g := evG (hd 9 List.mem_cons_self)
              have e131 : a'.tmps[131]?.getD undef = .agg #[.bool fex, .slice ya ys.length yc] := evG (hd 10 (List.mem_cons_of_mem _ List.mem_cons_self))
              have e133 : a'.tmps[133]?.getD undef = .agg #[.bool ex, .slice fa srcs.length fc] := evG (hd 12 (List.mem_cons_of_mem _ (List.mem_cons_of_mem _ List.mem_cons_self)))
              refine Does2.call 27 #[.int .u32 g, .agg #[.bool fex, .slice ya ys.length yc], .agg #[.bool ex, .slice fa srcs.length fc]] (w' := w9) ?_ ((rChange g fex ex ya fa _ _ yc fc ys srcs w9 rfl rfl (by omega) (by omega) I1.out I2.out (YF.out.1.below hS) (SF.out.1.below hS) SF.out.2).mono ?_)
              · clear hS h0 hd
                go_simp
              · rintro e w8 ⟨⟨b8, d8, rs8, rfl, m8, k8, n8⟩, hb⟩
                exact ⟨_, rfl, ⟨b8, d8, rs8, rfl, m8, k8⟩, hS.trans (hb.mono hS.size), hb⟩
            case refine_15 =>
              intro a' w9 hS h0 hd
              obtain ⟨b28, d28, rs28, e128, m28, k28⟩ := hd 7 List.mem_cons_self
              replace e128 := evG e128
              obtain ⟨b34, d34, rs34, e134, m34, k34⟩ := hd 13 (List.mem_cons_of_mem _ List.mem_cons_self)
              replace e134 := evG e134
              refine Does2.call 24 #[.slice b28 (List.length rs28) d28, .slice b34 (List.length rs34) d34] (w' := w9) ?_ ((rRecs b28 b34 _ _ d28 d34 rs28 rs34 w9 rfl rfl (by have := (rcs_few m28 HCF.out).1; omega) (by have := (rcs_few m34 HCF.out).1; omega) (rcs_few m28 HCF.out).2 k28 k34).mono ?_)
              · clear hS h0 hd m28 k28 m34 k34
                go_simp
              · rw [decide_eq_true (m28.trans m34.symm)]
                rintro e w8 ⟨rfl, hb⟩
                exact ⟨_, rfl, rfl, hS.trans (hb.mono hS.size), hb⟩
            case refine_16 =>
              intro a' w9 hS h0 hd
              have e122 : a'.tmps[122]?.getD undef = .bool true := evG (hd 1 List.mem_cons_self)
              have e135 : a'.tmps[135]?.getD undef = .bool true := evG (hd 14 (List.mem_cons_of_mem _ List.mem_cons_self))
              refine Does2.value (.bool true) (w' := w9) ?_ ⟨rfl, hS, Below.refl _ _⟩
              clear hS h0 hd
              go_simp
            case refine_17 =>
              intro a' w9 hS h0 hd
              have e136 : a'.tmps[136]?.getD undef = .bool true := evG (hd 15 List.mem_cons_self)
              refine Does2.value (.bool true) (w' := w9) ?_ ⟨rfl, hS, Below.refl _ _⟩
              clear hS h0 hd
              go_simp
            case hend =>
              intro f w9 hS hv
              have v2 := hv 16 (by decide)
              replace v2 : f 2 = .bool true := v2
              simp only [putAll, Act.put, List.setIfInBounds_toArray, List.set_cons_zero, List.set_cons_succ, v2]
              have BB := Lib.hid (BB.out.trans (hS.mono BB.out.size))
              clear hS hv v2
              go_wp2_with fail
              go_ret
              exact ⟨rfl, BB.out⟩
          · rw [decide_eq_false i2]
            clear i2
            go_wp2_with fail
            go_ret
            exact ⟨rfl, BB.out⟩
        · rw [decide_eq_false i1]
          clear i1
          go_wp2_with fail
          go_ret
          exact ⟨rfl, BB.out⟩
      · have q3' : (100 : Int) < (srcs.length : Int) + (ys.length : Int) := by omega
        go_wp2_with fail
        go_ret
        exact ⟨rfl, BB.out⟩
    · rw [decide_eq_false q2]
      clear q2
      go_wp2_with fail
      go_ret
      exact ⟨rfl, BB.out⟩
  · rw [decide_eq_false q1]
    clear q1
    go_wp2_with fail
    go_ret
    exact ⟨rfl, BB.out⟩

set_option maxRecDepth 100000 in
theorem contract (H : Type) (enc : TypeId × Value → H) (W : World) (base : Nat) (args : Array Value) (ds gs : List (DataW H)) (before : List MemPlace)
    (hval : ∀ (j : Nat) t v, Try.f4.params[j]? = some t → args[j]? = some v → Value.okWide Try.prog W .any base t v)
    (hW : DataW.Whole enc Try.prog Try.f4.params.toList Rows.hostChangesSpec.vars false W args.toList ds gs before) (hsz : (DataW.weightsEach Try.prog (Try.f4.params.toList ++ Rows.hostChangesSpec.plain.varTypes Try.prog) (ds ++ gs)).all (· ≤ reachBytes) = true) :
    Calls Try.prog 4 args W fun e W' => ∃ v, e = .returned v ∧ Rows.hostChangesSpec.post enc Try.prog Try.f4 false true false false W args v W' := by
  have hW' := hW
  obtain ⟨p, q, hA0, hV, rfl, hfz, hnd⟩ := hW
  have hA : DataW.TrodAll enc Try.prog W 0 (fun _ => true) true Try.f4.params.toList args.toList ds p := hA0
  rw [Try.params4] at hA hval
  obtain ⟨v0, vs0, d0, ds0, p0, q0, hargs, rfl, rfl, h0, r0⟩ := trodAll_cons hA
  obtain ⟨rfl, rfl, rfl⟩ := trodAll_nil r0
  obtain rfl : args = #[v0] := by cases args; simp_all
  obtain ⟨rfl, rfl⟩ := trodVars_none hV
  have k0 := h0
  have lt0 : ∀ x ∈ p0, x.block < W.heap.size := by obtain ⟨m, hm⟩ := k0; exact DataW.trod_lt m _ _ _ hm
  obtain ⟨a0, c0, s0, t0, i0, f0, rfl, y0, z0, u0, m0⟩ := open_chg (hval 0 40 v0 rfl rfl) h0 (fun x hx => by simpa using List.all_eq_true.1 hsz _ (DataW.weights_mem_each (j := 0) rfl rfl x hx))
  clear hA0
  refine (walk W a0 c0 s0 t0 i0 f0 y0 z0 u0 m0).mono fun e W' ⟨he, bel⟩ => ?_
  subst he
  exact ⟨_, rfl, _, _, _, [], _, [], hW', trodAll_mk1 (shut_bool Try.underlying4 _), (trodAll_cons_mk (Below.trod laidOut (by kernel_rfl) (of_decide_eq_true (by kernel_rfl)) k0 bel lt0) trodAll_mk0), rfl, bel.frame _, fun h => by cases h⟩

set_option maxRecDepth 100000 in
theorem lifted (os : Os) (started : os.Started) (H : Type) (enc : TypeId × Value → H) :
    ReturnsInHanded {} Try.checked os 4 .any (Rows.hostChangesSpec.pre6 enc Try.prog Try.f4 Rows.hostChangesRow.domain false) (Rows.hostChangesSpec.post enc Try.prog Try.f4 false true false false) := by
  refine returnsInHanded_of_change_sized (C := Try.checked) own started (by kernel_rfl) Try.func4
    (ChangeSpec.witness6 (enc := enc) (C := Try.checked) false ⟨#[], #[(.agg #[.slice none 0 0, .int .i64 0, .int .u32 0, .bool false, .slice none 0 0, .int .i64 0, .bool false, .slice none 0 0])], []⟩ 8 (by kernel_rfl) (by kernel_rfl) (by kernel_rfl) (by kernel_rfl)) ?_
  intro W base args ds gs before hval hW hcnd hsz _
  exact contract H enc W base args ds gs before hval hW hsz
theorem said : Rows.HostChangesSaid :=
  OpenClaim.holds_of_wide 4 Try.f4 rfl rfl rfl rfl rfl rfl rfl ⟨rfl, rfl, rfl, rfl, rfl⟩ rfl rfl rfl rfl rfl (by kernel_rfl) Try.func4 (by kernel_rfl)
    (of_decide_eq_true (by kernel_rfl)) (by unfold Func.isWrapper; first | (rw [if_pos (by decide +kernel)]; kernel_rfl) | (rw [if_neg (by decide +kernel)]; exact ⟨rfl, rfl⟩))
    (fun os started H enc _ => lifted os started H enc)
#print axioms said
end Go.Proofs.Ytmcbbccbonadjaa.hostChanges
