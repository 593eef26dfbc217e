/- The law HostTwo: every call returns true, and its arguments read behind the call as before it. Condition: none but the row's own. -/
import Derived.Test.YtmcbbccbonadjaaW13
namespace Go.Proofs.Ytmcbbccbonadjaa.hostTwo
set_option linter.unusedVariables false
open Go.ChangeShapes Go.WideShapes Go.ChangeAt Go.RowKit
open Go.ChangeMaps (open_string shut_string)

def twEV (N : Nat) (a a5 : Option Addr) (n c n5 c5 : Nat) (g g2 : Int) (p1 : Bool) (l1 : List Int) : Nat → Value → List Value → World → Prop
  | 0, v, _, _ => v = .bool true
  | 1, v, _, _ => v = .bool true
  | 2, v, _, _ => v = .pointer (some ⟨N + 1, 1, none⟩)
  | 3, v, _, _ => v = .int .u32 g
  | 4, v, _, _ => v = .pointer (some ⟨N + 2, 1, none⟩)
  | 5, v, _, _ => v = .int .u32 g2
  | 6, v, _, _ => v = .bool true
  | 7, v, _, _ => v = .bool true
  | 8, v, _, _ => v = undef
  | 9, v, _, _ => v = undef
  | 10, v, _, _ => v = undef
  | 11, v, _, _ => v = undef
  | 12, v, _, _ => v = undef
  | 13, v, _, _ => v = undef
  | 14, v, _, _ => v = undef
  | 15, v, _, _ => v = undef
  | 16, v, _, _ => v = undef
  | 17, v, _, _ => v = .bool true
  | 18, v, _, _ => v = .bool true
  | 19, v, _, _ => v = .bool true
  | _, _, _, _ => True
def twED : Nat → List Nat
  | 1 => [0]
  | 2 => [1]
  | 3 => [2, 1]
  | 4 => [1]
  | 5 => [4, 1]
  | 6 => [3, 5, 1]
  | 7 => [6, 1]
  | 8 => [7]
  | 9 => [7]
  | 10 => [9, 7]
  | 11 => [8, 10, 7]
  | 12 => [7]
  | 13 => [7]
  | 14 => [13, 7]
  | 15 => [12, 14, 7]
  | 16 => [11, 15, 7]
  | 17 => [7, 16, 1]
  | 18 => [1, 17]
  | 19 => [18]
  | _ => []
def twEN (i : Nat) : Bool := !([8, 9, 10, 11, 12, 13, 14, 15, 16] : List Nat).contains i
theorem twE_st (N : Nat) (a a5 : Option Addr) (n c n5 c5 : Nat) (g g2 : Int) (p1 : Bool) (l1 : List Int) {i : Nat} {v : Value} {us : List Value} {w w' : World}  (hr : True) (hv : twEV N a a5 n c n5 c5 g g2 p1 l1 i v us w) : twEV N a a5 n c n5 c5 g g2 p1 l1 i v us w' := by
  unfold twEV at hv ⊢
  split at hv
  all_goals first
    | exact hv
def twNV (N : Nat) (a a5 : Option Addr) (n c n5 c5 : Nat) (g g2 : Int) (p1 : Bool) (l1 : List Int) : Nat → Value → List Value → World → Prop
  | 0, v, _, _ => v = .bool true
  | 1, v, _, _ => v = .bool true
  | 2, v, _, _ => v = .pointer (some ⟨N + 1, 1, none⟩)
  | 3, v, _, _ => v = .int .u32 g
  | 4, v, _, _ => v = .pointer (some ⟨N + 2, 1, none⟩)
  | 5, v, _, _ => v = .int .u32 g2
  | 6, v, _, _ => v = .bool false
  | 7, v, _, _ => v = .bool false
  | 8, v, _, _ => v = .agg #[.slice a5 n5 c5]
  | 9, v, _, _ => v = .pointer (some ⟨N + 2, 1, none⟩)
  | 10, v, _, _ => v = .int .u32 g2
  | 11, v, _, w => ∃ (a31 : Option Addr) (c31 : Nat), v = .agg #[.bool p1, .slice a31 l1.length c31] ∧ As w a31 l1
  | 12, v, _, _ => v = .agg #[.slice a n c]
  | 13, v, _, _ => v = .pointer (some ⟨N + 2, 1, none⟩)
  | 14, v, _, _ => v = .int .u32 g2
  | 15, v, _, w => ∃ (a32 : Option Addr) (c32 : Nat), v = .agg #[.bool p1, .slice a32 l1.length c32] ∧ As w a32 l1
  | 16, v, _, _ => v = .bool true
  | 17, v, _, _ => v = .bool true
  | 18, v, _, _ => v = .bool true
  | 19, v, _, _ => v = .bool true
  | _, _, _, _ => True
def twND : Nat → List Nat
  | 1 => [0]
  | 2 => [1]
  | 3 => [2, 1]
  | 4 => [1]
  | 5 => [4, 1]
  | 6 => [3, 5, 1]
  | 7 => [6, 1]
  | 8 => [7]
  | 9 => [7]
  | 10 => [9, 7]
  | 11 => [8, 10, 7]
  | 12 => [7]
  | 13 => [7]
  | 14 => [13, 7]
  | 15 => [12, 14, 7]
  | 16 => [11, 15, 7]
  | 17 => [7, 16, 1]
  | 18 => [1, 17]
  | 19 => [18]
  | _ => []
theorem twN_st (N : Nat) (a a5 : Option Addr) (n c n5 c5 : Nat) (g g2 : Int) (p1 : Bool) (l1 : List Int) {i : Nat} {v : Value} {us : List Value} {w w' : World}  (hr : Below w.heap.size w w') (hv : twNV N a a5 n c n5 c5 g g2 p1 l1 i v us w) : twNV N a a5 n c n5 c5 g g2 p1 l1 i v us w' := by
  unfold twNV at hv ⊢
  split at hv
  all_goals first
    | exact hv
    | (obtain ⟨a31, c31, e, h31⟩ := hv; exact ⟨a31, c31, e, h31.below hr⟩)
    | (obtain ⟨a32, c32, e, h32⟩ := hv; exact ⟨a32, c32, e, h32.below hr⟩)
set_option linter.unusedSimpArgs false in
set_option maxRecDepth 100000 in
set_option maxHeartbeats 16000000 in
theorem walk (w : World) (a : Option Addr) (c : Nat) (ss : List Sk) (hin : HIn w a ss c) (s : Sk) (hsin : SIn w s) (t : Sk) (htin : SIn w t) :
    Calls Try.prog 10 #[.agg #[.slice a (List.length ss) c], .agg #[.int .i64 s.id, .int .u32 s.g, .bool s.f.ex, s.f.sl], .agg #[.int .i64 t.id, .int .u32 t.g, .bool t.f.ex, t.f.sl]] w fun e w' => e = .returned (.bool true) ∧ Below w.heap.size w w' := by
  obtain ⟨id, g, ⟨ex, srcs, fa, fc⟩⟩ := s
  obtain ⟨id2, g2, ⟨ex2, srcs2, fa2, fc2⟩⟩ := t
  obtain ⟨n, hn⟩ : ∃ n, ss.length = n := ⟨_, rfl⟩
  obtain ⟨hS, hn0, hsl, hni, hnc⟩ := hin
  obtain ⟨hF, hg, hs0⟩ := hsin
  obtain ⟨hF2, hg2, hs02⟩ := htin
  simp only [Flt.sl] at hF hg hs0 hF2 hg2 hs02 ⊢
  rw [hn] at hn0 hnc ⊢
  have HX := Lib.hid hn
  have HSL := Lib.hid hsl
  have HNI := Lib.hid hni
  have hb1 := bel1 w (.cells #[.slice a n c] 36)
  have p := host_new w (.slice a n c)
  have hb2 := bel1 (w.alloc (.cells #[.slice a n c] 36)) (.cells #[.int .i64 id, .int .u32 g, .bool ex, .slice fa srcs.length fc] 38)
  have q := sock_new (w.alloc (.cells #[.slice a n c] 36)) (.int .i64 id) (.int .u32 g) (.bool ex) (.slice fa srcs.length fc)
  have hb3 := bel1 ((w.alloc (.cells #[.slice a n c] 36)).alloc (.cells #[.int .i64 id, .int .u32 g, .bool ex, .slice fa srcs.length fc] 38)) (.cells #[.int .i64 id2, .int .u32 g2, .bool ex2, .slice fa2 srcs2.length fc2] 38)
  have r := sock_new ((w.alloc (.cells #[.slice a n c] 36)).alloc (.cells #[.int .i64 id, .int .u32 g, .bool ex, .slice fa srcs.length fc] 38)) (.int .i64 id2) (.int .u32 g2) (.bool ex2) (.slice fa2 srcs2.length fc2)
  rw [World.size_alloc] at q
  rw [World.size_alloc, World.size_alloc] at r
  have C0 := Lib.hid ((hb3.cell (cell_lt ((hb2.cell (cell_lt p)).trans p))).trans ((hb2.cell (cell_lt p)).trans p))
  have Q0 := Lib.hid ((hb3.cell (cell_lt q.1)).trans q.1)
  have Q1 := Lib.hid ((hb3.cell (cell_lt q.2.1)).trans q.2.1)
  have Q2 := Lib.hid ((hb3.cell (cell_lt q.2.2.1)).trans q.2.2.1)
  have Q3 := Lib.hid ((hb3.cell (cell_lt q.2.2.2)).trans q.2.2.2)
  have R := Lib.hid r
  have hbb := (hb1.trans (hb2.mono hb1.size)).trans (hb3.mono (hb1.trans (hb2.mono hb1.size)).size)
  have BB := Lib.hid hbb
  have SS := Lib.hid (hS.below hbb)
  have SF := Lib.hid (hF.below hbb)
  have TF := Lib.hid (hF2.below hbb)
  clear hn hS hsl hni hF hF2 hb1 hb2 hb3 p q r hbb
  go_enter Try.func10, Try.ntmps10
  go_wp2_with fail
  generalize ((w.alloc (.cells #[.slice a n c] 36)).alloc (.cells #[.int .i64 id, .int .u32 g, .bool ex, .slice fa srcs.length fc] 38)).alloc (.cells #[.int .i64 id2, .int .u32 g2, .bool ex2, .slice fa2 srcs2.length fc2] 38) = w1 at *
  have c0 := C0.out
  have s0 := Q0.out
  have s1 := Q1.out
  have s2 := Q2.out
  have s3 := Q3.out
  obtain ⟨t0, t1, t2, t3⟩ := R.out
  clear C0 Q0 Q1 Q2 Q3 R
  refine (hShown _).mono ?_
  rintro e w101 ⟨rfl, hb⟩
  have BB := Lib.hid (BB.out.trans (hb.mono BB.out.size))
  have SS := Lib.hid (SS.out.below hb)
  have SF := Lib.hid (SF.out.below hb)
  have TF := Lib.hid (TF.out.below hb)
  replace c0 := (hb.cell (cell_lt c0)).trans c0
  replace s0 := (hb.cell (cell_lt s0)).trans s0
  replace s1 := (hb.cell (cell_lt s1)).trans s1
  replace s2 := (hb.cell (cell_lt s2)).trans s2
  replace s3 := (hb.cell (cell_lt s3)).trans s3
  replace t0 := (hb.cell (cell_lt t0)).trans t0
  replace t1 := (hb.cell (cell_lt t1)).trans t1
  replace t2 := (hb.cell (cell_lt t2)).trans t2
  replace t3 := (hb.cell (cell_lt t3)).trans t3
  clear hb
  go_wp2_with fail
  refine (rFewH a n c ss _ HX.out hn0 HSL.out SS.out).mono ?_
  rintro e w102 ⟨rfl, hb⟩
  have BB := Lib.hid (BB.out.trans (hb.mono BB.out.size))
  have SS := Lib.hid (SS.out.below hb)
  have SF := Lib.hid (SF.out.below hb)
  have TF := Lib.hid (TF.out.below hb)
  replace c0 := (hb.cell (cell_lt c0)).trans c0
  replace s0 := (hb.cell (cell_lt s0)).trans s0
  replace s1 := (hb.cell (cell_lt s1)).trans s1
  replace s2 := (hb.cell (cell_lt s2)).trans s2
  replace s3 := (hb.cell (cell_lt s3)).trans s3
  replace t0 := (hb.cell (cell_lt t0)).trans t0
  replace t1 := (hb.cell (cell_lt t1)).trans t1
  replace t2 := (hb.cell (cell_lt t2)).trans t2
  replace t3 := (hb.cell (cell_lt t3)).trans t3
  clear hb
  by_cases q1 : ss.length + fl ss ≤ 600
  · rw [decide_eq_true q1]
    have HQ1 := Lib.hid q1
    clear q1
    go_wp2_with fail
    refine (rRightH a n c ss _ HX.out hn0 (fun s hs => by have h1 := fl_mem hs; have h2 := HQ1.out; omega) SS.out).mono ?_
    rintro e w103 ⟨rfl, hb⟩
    have BB := Lib.hid (BB.out.trans (hb.mono BB.out.size))
    have SS := Lib.hid (SS.out.below hb)
    have SF := Lib.hid (SF.out.below hb)
    have TF := Lib.hid (TF.out.below hb)
    replace c0 := (hb.cell (cell_lt c0)).trans c0
    replace s0 := (hb.cell (cell_lt s0)).trans s0
    replace s1 := (hb.cell (cell_lt s1)).trans s1
    replace s2 := (hb.cell (cell_lt s2)).trans s2
    replace s3 := (hb.cell (cell_lt s3)).trans s3
    replace t0 := (hb.cell (cell_lt t0)).trans t0
    replace t1 := (hb.cell (cell_lt t1)).trans t1
    replace t2 := (hb.cell (cell_lt t2)).trans t2
    replace t3 := (hb.cell (cell_lt t3)).trans t3
    clear hb
    by_cases q2 : okH ss
    · rw [decide_eq_true q2]
      have HOK := Lib.hid q2
      have HFW := Lib.hid (okH_few q2)
      clear q2
      by_cases q3 : n ≤ 30
      · have q3' : decide ((30 : Int) < (n : Int)) = false := decide_eq_false (by omega)
        have HN30 : Hid (ss.length ≤ 30) := Lib.hid (by rw [HX.out]; exact q3)
        by_cases q4 : id = id2
        · have q4' : (id == id2) = true := by simpa using q4
          clear q4
          go_wp2_with fail
          go_ret
          exact ⟨rfl, BB.out⟩
        · have q4' : (id == id2) = false := by simpa using q4
          have HID := Lib.hid q4
          clear q4
          by_cases q5 : srcs.length + srcs2.length ≤ 100
          · have q5' : decide ((100 : Int) < (srcs.length : Int) + (srcs2.length : Int)) = false := decide_eq_false (by omega)
            go_wp2_with fail
            have hP := hPut a n c ss ⟨id, g, ⟨ex, srcs, fa, fc⟩⟩ w103 HX.out (by omega) hnc HNI.out HOK.out.2.1 HFW.out (by show srcs.length ≤ _; omega) SS.out SF.out hg
            simp only [Flt.sl] at hP
            refine hP.mono ?_
            rintro e w104 ⟨⟨a5, c5, ss5, p5, d5, rs5, rfl, ⟨h1, h2, h3, h4⟩, m1, -, -⟩, hb⟩
            have N5 := Lib.hid h1
            have T5 := Lib.hid h2
            have G5 := Lib.hid h4
            have J5 := Lib.hid (flat_nil' h3)
            clear h1 h2 h3 h4 m1 hP
            have BB := Lib.hid (BB.out.trans (hb.mono BB.out.size))
            have SS := Lib.hid (SS.out.below hb)
            have SF := Lib.hid (SF.out.below hb)
            have TF := Lib.hid (TF.out.below hb)
            replace c0 := (hb.cell (cell_lt c0)).trans c0
            replace s0 := (hb.cell (cell_lt s0)).trans s0
            replace s1 := (hb.cell (cell_lt s1)).trans s1
            replace s2 := (hb.cell (cell_lt s2)).trans s2
            replace s3 := (hb.cell (cell_lt s3)).trans s3
            replace t0 := (hb.cell (cell_lt t0)).trans t0
            replace t1 := (hb.cell (cell_lt t1)).trans t1
            replace t2 := (hb.cell (cell_lt t2)).trans t2
            replace t3 := (hb.cell (cell_lt t3)).trans t3
            clear hb
            obtain ⟨er5, her⟩ : ∃ er, putE ss ⟨id, g, ⟨ex, srcs, fa, fc⟩⟩ = er := ⟨_, rfl⟩
            rw [her]
            have HER5 := Lib.hid her
            obtain ⟨n5, hn5⟩ : ∃ n, ss5.length = n := ⟨_, rfl⟩
            obtain ⟨r5, hr⟩ : ∃ r, rs5.length = r := ⟨_, rfl⟩
            rw [hn5] at G5 ⊢
            rw [hr]
            have HN5 := Lib.hid hn5
            have HK5 : Hid (okH ss5) := Lib.hid (okH_nm N5.out (putH_ok HOK.out))
            have HF5 := Lib.hid (okH_few HK5.out)
            have hle5 : n5 ≤ 32 := by rw [← HN5.out]; exact HK5.out.2.2
            clear her hn5 hr
            have hbn := bel1 w104 (.cells #[.slice a5 n5 c5] 36)
            have b5 := host_new w104 (.slice a5 n5 c5)
            have SS := Lib.hid (SS.out.below hbn)
            have SF := Lib.hid (SF.out.below hbn)
            have TF := Lib.hid (TF.out.below hbn)
            have T5 := Lib.hid (T5.out.below hbn)
            have BB := Lib.hid (BB.out.trans (hbn.mono BB.out.size))
            replace c0 := (hbn.cell (cell_lt c0)).trans c0
            replace s0 := (hbn.cell (cell_lt s0)).trans s0
            replace s1 := (hbn.cell (cell_lt s1)).trans s1
            replace s2 := (hbn.cell (cell_lt s2)).trans s2
            replace s3 := (hbn.cell (cell_lt s3)).trans s3
            replace t0 := (hbn.cell (cell_lt t0)).trans t0
            replace t1 := (hbn.cell (cell_lt t1)).trans t1
            replace t2 := (hbn.cell (cell_lt t2)).trans t2
            replace t3 := (hbn.cell (cell_lt t3)).trans t3
            clear hbn
            go_wp2_with fail
            generalize w104.alloc (.cells #[.slice a5 n5 c5] 36) = v5 at *
            have hP := hPut a5 n5 c5 ss5 ⟨id2, g2, ⟨ex2, srcs2, fa2, fc2⟩⟩ v5 HN5.out (by omega) G5.out J5.out HK5.out.2.1 HF5.out (by show srcs2.length ≤ _; omega) T5.out TF.out hg2
            simp only [Flt.sl] at hP
            refine hP.mono ?_
            rintro e w105 ⟨⟨a6, c6, ss6, p6, d6, rs6, rfl, ⟨h1, h2, h3, h4⟩, m1, -, -⟩, hb⟩
            have N6 := Lib.hid h1
            have T6 := Lib.hid h2
            have G6 := Lib.hid h4
            have J6 := Lib.hid (flat_nil' h3)
            clear h1 h2 h3 h4 m1 hP
            have BB := Lib.hid (BB.out.trans (hb.mono BB.out.size))
            have SS := Lib.hid (SS.out.below hb)
            have SF := Lib.hid (SF.out.below hb)
            have TF := Lib.hid (TF.out.below hb)
            have T5 := Lib.hid (T5.out.below hb)
            replace c0 := (hb.cell (cell_lt c0)).trans c0
            replace s0 := (hb.cell (cell_lt s0)).trans s0
            replace s1 := (hb.cell (cell_lt s1)).trans s1
            replace s2 := (hb.cell (cell_lt s2)).trans s2
            replace s3 := (hb.cell (cell_lt s3)).trans s3
            replace t0 := (hb.cell (cell_lt t0)).trans t0
            replace t1 := (hb.cell (cell_lt t1)).trans t1
            replace t2 := (hb.cell (cell_lt t2)).trans t2
            replace t3 := (hb.cell (cell_lt t3)).trans t3
            replace b5 := (hb.cell (cell_lt b5)).trans b5
            clear hb
            obtain ⟨er6, her⟩ : ∃ er, putE ss5 ⟨id2, g2, ⟨ex2, srcs2, fa2, fc2⟩⟩ = er := ⟨_, rfl⟩
            rw [her]
            have HER6 := Lib.hid her
            obtain ⟨n6, hn6⟩ : ∃ n, ss6.length = n := ⟨_, rfl⟩
            obtain ⟨r6, hr⟩ : ∃ r, rs6.length = r := ⟨_, rfl⟩
            rw [hn6] at G6 ⊢
            rw [hr]
            have HN6 := Lib.hid hn6
            have HK6 : Hid (okH ss6) := Lib.hid (okH_nm N6.out (putH_ok HK5.out))
            have HF6 := Lib.hid (okH_few HK6.out)
            have hle6 : n6 ≤ 32 := by rw [← HN6.out]; exact HK6.out.2.2
            clear her hn6 hr
            have hbn := bel1 w105 (.cells #[.slice a6 n6 c6] 36)
            have b6 := host_new w105 (.slice a6 n6 c6)
            have SS := Lib.hid (SS.out.below hbn)
            have SF := Lib.hid (SF.out.below hbn)
            have TF := Lib.hid (TF.out.below hbn)
            have T5 := Lib.hid (T5.out.below hbn)
            have T6 := Lib.hid (T6.out.below hbn)
            have BB := Lib.hid (BB.out.trans (hbn.mono BB.out.size))
            replace c0 := (hbn.cell (cell_lt c0)).trans c0
            replace s0 := (hbn.cell (cell_lt s0)).trans s0
            replace s1 := (hbn.cell (cell_lt s1)).trans s1
            replace s2 := (hbn.cell (cell_lt s2)).trans s2
            replace s3 := (hbn.cell (cell_lt s3)).trans s3
            replace t0 := (hbn.cell (cell_lt t0)).trans t0
            replace t1 := (hbn.cell (cell_lt t1)).trans t1
            replace t2 := (hbn.cell (cell_lt t2)).trans t2
            replace t3 := (hbn.cell (cell_lt t3)).trans t3
            replace b5 := (hbn.cell (cell_lt b5)).trans b5
            clear hbn
            go_wp2_with fail
            generalize w105.alloc (.cells #[.slice a6 n6 c6] 36) = v6 at *
            have hP := hPut a n c ss ⟨id2, g2, ⟨ex2, srcs2, fa2, fc2⟩⟩ v6 HX.out (by omega) hnc HNI.out HOK.out.2.1 HFW.out (by show srcs2.length ≤ _; omega) SS.out TF.out hg2
            simp only [Flt.sl] at hP
            refine hP.mono ?_
            rintro e w106 ⟨⟨a7, c7, ss7, p7, d7, rs7, rfl, ⟨h1, h2, h3, h4⟩, m1, -, -⟩, hb⟩
            have N7 := Lib.hid h1
            have T7 := Lib.hid h2
            have G7 := Lib.hid h4
            have J7 := Lib.hid (flat_nil' h3)
            clear h1 h2 h3 h4 m1 hP
            have BB := Lib.hid (BB.out.trans (hb.mono BB.out.size))
            have SS := Lib.hid (SS.out.below hb)
            have SF := Lib.hid (SF.out.below hb)
            have TF := Lib.hid (TF.out.below hb)
            have T5 := Lib.hid (T5.out.below hb)
            have T6 := Lib.hid (T6.out.below hb)
            replace c0 := (hb.cell (cell_lt c0)).trans c0
            replace s0 := (hb.cell (cell_lt s0)).trans s0
            replace s1 := (hb.cell (cell_lt s1)).trans s1
            replace s2 := (hb.cell (cell_lt s2)).trans s2
            replace s3 := (hb.cell (cell_lt s3)).trans s3
            replace t0 := (hb.cell (cell_lt t0)).trans t0
            replace t1 := (hb.cell (cell_lt t1)).trans t1
            replace t2 := (hb.cell (cell_lt t2)).trans t2
            replace t3 := (hb.cell (cell_lt t3)).trans t3
            replace b5 := (hb.cell (cell_lt b5)).trans b5
            replace b6 := (hb.cell (cell_lt b6)).trans b6
            clear hb
            obtain ⟨er7, her⟩ : ∃ er, putE ss ⟨id2, g2, ⟨ex2, srcs2, fa2, fc2⟩⟩ = er := ⟨_, rfl⟩
            rw [her]
            have HER7 := Lib.hid her
            obtain ⟨n7, hn7⟩ : ∃ n, ss7.length = n := ⟨_, rfl⟩
            obtain ⟨r7, hr⟩ : ∃ r, rs7.length = r := ⟨_, rfl⟩
            rw [hn7] at G7 ⊢
            rw [hr]
            have HN7 := Lib.hid hn7
            have HK7 : Hid (okH ss7) := Lib.hid (okH_nm N7.out (putH_ok HOK.out))
            have HF7 := Lib.hid (okH_few HK7.out)
            have hle7 : n7 ≤ 32 := by rw [← HN7.out]; exact HK7.out.2.2
            clear her hn7 hr
            have hbn := bel1 w106 (.cells #[.slice a7 n7 c7] 36)
            have b7 := host_new w106 (.slice a7 n7 c7)
            have SS := Lib.hid (SS.out.below hbn)
            have SF := Lib.hid (SF.out.below hbn)
            have TF := Lib.hid (TF.out.below hbn)
            have T5 := Lib.hid (T5.out.below hbn)
            have T6 := Lib.hid (T6.out.below hbn)
            have T7 := Lib.hid (T7.out.below hbn)
            have BB := Lib.hid (BB.out.trans (hbn.mono BB.out.size))
            replace c0 := (hbn.cell (cell_lt c0)).trans c0
            replace s0 := (hbn.cell (cell_lt s0)).trans s0
            replace s1 := (hbn.cell (cell_lt s1)).trans s1
            replace s2 := (hbn.cell (cell_lt s2)).trans s2
            replace s3 := (hbn.cell (cell_lt s3)).trans s3
            replace t0 := (hbn.cell (cell_lt t0)).trans t0
            replace t1 := (hbn.cell (cell_lt t1)).trans t1
            replace t2 := (hbn.cell (cell_lt t2)).trans t2
            replace t3 := (hbn.cell (cell_lt t3)).trans t3
            replace b5 := (hbn.cell (cell_lt b5)).trans b5
            replace b6 := (hbn.cell (cell_lt b6)).trans b6
            clear hbn
            go_wp2_with fail
            generalize w106.alloc (.cells #[.slice a7 n7 c7] 36) = v7 at *
            have hP := hPut a7 n7 c7 ss7 ⟨id, g, ⟨ex, srcs, fa, fc⟩⟩ v7 HN7.out (by omega) G7.out J7.out HK7.out.2.1 HF7.out (by show srcs.length ≤ _; omega) T7.out SF.out hg
            simp only [Flt.sl] at hP
            refine hP.mono ?_
            rintro e w107 ⟨⟨a8, c8, ss8, p8, d8, rs8, rfl, ⟨h1, h2, h3, h4⟩, m1, -, -⟩, hb⟩
            have N8 := Lib.hid h1
            have T8 := Lib.hid h2
            have G8 := Lib.hid h4
            have J8 := Lib.hid (flat_nil' h3)
            clear h1 h2 h3 h4 m1 hP
            have BB := Lib.hid (BB.out.trans (hb.mono BB.out.size))
            have SS := Lib.hid (SS.out.below hb)
            have SF := Lib.hid (SF.out.below hb)
            have TF := Lib.hid (TF.out.below hb)
            have T5 := Lib.hid (T5.out.below hb)
            have T6 := Lib.hid (T6.out.below hb)
            have T7 := Lib.hid (T7.out.below hb)
            replace c0 := (hb.cell (cell_lt c0)).trans c0
            replace s0 := (hb.cell (cell_lt s0)).trans s0
            replace s1 := (hb.cell (cell_lt s1)).trans s1
            replace s2 := (hb.cell (cell_lt s2)).trans s2
            replace s3 := (hb.cell (cell_lt s3)).trans s3
            replace t0 := (hb.cell (cell_lt t0)).trans t0
            replace t1 := (hb.cell (cell_lt t1)).trans t1
            replace t2 := (hb.cell (cell_lt t2)).trans t2
            replace t3 := (hb.cell (cell_lt t3)).trans t3
            replace b5 := (hb.cell (cell_lt b5)).trans b5
            replace b6 := (hb.cell (cell_lt b6)).trans b6
            replace b7 := (hb.cell (cell_lt b7)).trans b7
            clear hb
            obtain ⟨er8, her⟩ : ∃ er, putE ss7 ⟨id, g, ⟨ex, srcs, fa, fc⟩⟩ = er := ⟨_, rfl⟩
            rw [her]
            have HER8 := Lib.hid her
            obtain ⟨n8, hn8⟩ : ∃ n, ss8.length = n := ⟨_, rfl⟩
            obtain ⟨r8, hr⟩ : ∃ r, rs8.length = r := ⟨_, rfl⟩
            rw [hn8] at G8 ⊢
            rw [hr]
            have HN8 := Lib.hid hn8
            have HK8 : Hid (okH ss8) := Lib.hid (okH_nm N8.out (putH_ok HK7.out))
            have HF8 := Lib.hid (okH_few HK8.out)
            have hle8 : n8 ≤ 32 := by rw [← HN8.out]; exact HK8.out.2.2
            clear her hn8 hr
            have hbn := bel1 w107 (.cells #[.slice a8 n8 c8] 36)
            have b8 := host_new w107 (.slice a8 n8 c8)
            have SS := Lib.hid (SS.out.below hbn)
            have SF := Lib.hid (SF.out.below hbn)
            have TF := Lib.hid (TF.out.below hbn)
            have T5 := Lib.hid (T5.out.below hbn)
            have T6 := Lib.hid (T6.out.below hbn)
            have T7 := Lib.hid (T7.out.below hbn)
            have T8 := Lib.hid (T8.out.below hbn)
            have BB := Lib.hid (BB.out.trans (hbn.mono BB.out.size))
            replace c0 := (hbn.cell (cell_lt c0)).trans c0
            replace s0 := (hbn.cell (cell_lt s0)).trans s0
            replace s1 := (hbn.cell (cell_lt s1)).trans s1
            replace s2 := (hbn.cell (cell_lt s2)).trans s2
            replace s3 := (hbn.cell (cell_lt s3)).trans s3
            replace t0 := (hbn.cell (cell_lt t0)).trans t0
            replace t1 := (hbn.cell (cell_lt t1)).trans t1
            replace t2 := (hbn.cell (cell_lt t2)).trans t2
            replace t3 := (hbn.cell (cell_lt t3)).trans t3
            replace b5 := (hbn.cell (cell_lt b5)).trans b5
            replace b6 := (hbn.cell (cell_lt b6)).trans b6
            replace b7 := (hbn.cell (cell_lt b7)).trans b7
            clear hbn
            have E6 : er6 = er7 := by rw [← HER6.out, ← HER7.out]; exact (putE_nm N5.out _).trans (putE_two HID.out HN30.out)
            have E8 : er8 = er5 := by rw [← HER8.out, ← HER5.out]; exact (putE_nm N7.out _).trans (putE_two (Ne.symm HID.out) HN30.out)
            subst E6 E8
            have HS68 : Hid (ss6.map Sk.nm = ss8.map Sk.nm) := Lib.hid (by
              rw [N6.out, N8.out, putH_nm N5.out, putH_nm N7.out, putH_two HOK.out.2.1 HID.out HN30.out])
            go_wp2_with fail
            generalize w107.alloc (.cells #[.slice a8 n8 c8] 36) = v8 at *
            refine (rSameH a6 a8 n6 n8 c6 c8 ss6 ss8 _ HN6.out HN8.out (by omega) (by omega) (fun s hs => by have := (HK6.out.1 s hs).2.2.1; omega) (fun s hs => by have := (HK8.out.1 s hs).2.2.1; omega) T6.out T8.out).mono ?_
            rintro e w108 ⟨rfl, hb⟩
            have BB := Lib.hid (BB.out.trans (hb.mono BB.out.size))
            have SS := Lib.hid (SS.out.below hb)
            have SF := Lib.hid (SF.out.below hb)
            have TF := Lib.hid (TF.out.below hb)
            have T5 := Lib.hid (T5.out.below hb)
            have T6 := Lib.hid (T6.out.below hb)
            have T7 := Lib.hid (T7.out.below hb)
            have T8 := Lib.hid (T8.out.below hb)
            replace c0 := (hb.cell (cell_lt c0)).trans c0
            replace s0 := (hb.cell (cell_lt s0)).trans s0
            replace s1 := (hb.cell (cell_lt s1)).trans s1
            replace s2 := (hb.cell (cell_lt s2)).trans s2
            replace s3 := (hb.cell (cell_lt s3)).trans s3
            replace t0 := (hb.cell (cell_lt t0)).trans t0
            replace t1 := (hb.cell (cell_lt t1)).trans t1
            replace t2 := (hb.cell (cell_lt t2)).trans t2
            replace t3 := (hb.cell (cell_lt t3)).trans t3
            replace b5 := (hb.cell (cell_lt b5)).trans b5
            replace b6 := (hb.cell (cell_lt b6)).trans b6
            replace b7 := (hb.cell (cell_lt b7)).trans b7
            replace b8 := (hb.cell (cell_lt b8)).trans b8
            clear hb
            rw [decide_eq_true HS68.out]
            have K0 := Lib.hid c0
            have K1 := Lib.hid s1
            have K2 := Lib.hid t1
            have K5 := Lib.hid b5
            obtain ⟨⟨p1, l1⟩, hw1⟩ : ∃ p, wants g2 ss = p := ⟨_, rfl⟩
            have hll := flt_len (ofG_few (g := g2) HFW.out)
            rw [show flt (ofG g2 ss) = (p1, l1) from hw1] at hll
            have HLL : Hid (l1.length ≤ 160000) := Lib.hid hll
            have HWB := Lib.hid hw1
            have HWO := Lib.hid (fun h => (wants_eq N5.out).trans (wants_other (s := ⟨id, g, ⟨ex, srcs, fa, fc⟩⟩) HOK.out.2.1 g2 h))
            clear hw1 hll
            go_wp2_with fail
            by_cases hgg : g = g2
            · have hgg1 : (g == g2) = true := by simpa using hgg
              clear hgg
              refine wp_region_each4 (twEV w.heap.size a a5 n c n5 c5 g g2 p1 l1) (fun W => Below w108.heap.size w108 W) (fun _ A B => Below A.heap.size A B) twED twEN [97, 98, 99, 100, 101, 102, 103, 104, 105, 106, 107, 108, 109, 110, 111, 112, 113, 114, 115, 6] (by kernel_rfl) (by kernel_rfl) (by kernel_rfl) (Below.refl _ w108).drew
                (fun i j oi oj v us A B hoi hoj hij hw hSA hr hv => twE_st _ _ _ _ _ _ _ _ _ _ _ trivial hv) ?hgd ?hng ?hsk
                ⟨?_, ?_, ?_, ?_, ?_, ?_, ?_, ?_, ?_, ?_, ?_, ?_, ?_, ?_, ?_, ?_, ?_, ?_, ?_, ?_, trivial⟩ ?hend
              case hgd =>
                intro i o g b hoi hog v us w hv
                have hi : i < 20 := (Array.getElem?_eq_some_iff.1 hoi).1
                have hc : i = 0 ∨ i = 1 ∨ i = 2 ∨ i = 3 ∨ i = 4 ∨ i = 5 ∨ i = 6 ∨ i = 7 ∨ i = 8 ∨ i = 9 ∨ i = 10 ∨ i = 11 ∨ i = 12 ∨ i = 13 ∨ i = 14 ∨ i = 15 ∨ i = 16 ∨ i = 17 ∨ i = 18 ∨ i = 19 := by omega
                rcases hc with rfl | rfl | rfl | rfl | rfl | rfl | rfl | rfl | rfl | rfl | rfl | rfl | rfl | rfl | rfl | rfl | rfl | rfl | rfl | rfl
                · cases hoi; cases hog
                · cases hoi; cases hog
                · cases hoi; cases hog; exact hv
                · cases hoi; cases hog; exact hv
                · cases hoi; cases hog; exact hv
                · cases hoi; cases hog; exact hv
                · cases hoi; cases hog; exact hv
                · cases hoi; cases hog; exact hv
                · cases hoi; cases hog
                  show v ≠ _
                  rw [show v = _ from hv]
                  intro e; cases e
                · cases hoi; cases hog
                  show v ≠ _
                  rw [show v = _ from hv]
                  intro e; cases e
                · cases hoi; cases hog
                  show v ≠ _
                  rw [show v = _ from hv]
                  intro e; cases e
                · cases hoi; cases hog
                  show v ≠ _
                  rw [show v = _ from hv]
                  intro e; cases e
                · cases hoi; cases hog
                  show v ≠ _
                  rw [show v = _ from hv]
                  intro e; cases e
                · cases hoi; cases hog
                  show v ≠ _
                  rw [show v = _ from hv]
                  intro e; cases e
                · cases hoi; cases hog
                  show v ≠ _
                  rw [show v = _ from hv]
                  intro e; cases e
                · cases hoi; cases hog
                  show v ≠ _
                  rw [show v = _ from hv]
                  intro e; cases e
                · cases hoi; cases hog
                  show v ≠ _
                  rw [show v = _ from hv]
                  intro e; cases e
                · cases hoi; cases hog; exact hv
                · cases hoi; cases hog
                · cases hoi; cases hog
              case hng =>
                intro i o hoi hr
                have hi : i < 20 := (Array.getElem?_eq_some_iff.1 hoi).1
                have hc : i = 0 ∨ i = 1 ∨ i = 2 ∨ i = 3 ∨ i = 4 ∨ i = 5 ∨ i = 6 ∨ i = 7 ∨ i = 8 ∨ i = 9 ∨ i = 10 ∨ i = 11 ∨ i = 12 ∨ i = 13 ∨ i = 14 ∨ i = 15 ∨ i = 16 ∨ i = 17 ∨ i = 18 ∨ i = 19 := by omega
                rcases hc with rfl | rfl | rfl | rfl | rfl | rfl | rfl | rfl | rfl | rfl | rfl | rfl | rfl | rfl | rfl | rfl | rfl | rfl | rfl | rfl
                · exact absurd hr (by decide)
                · exact absurd hr (by decide)
                · exact absurd hr (by decide)
                · exact absurd hr (by decide)
                · exact absurd hr (by decide)
                · exact absurd hr (by decide)
                · exact absurd hr (by decide)
                · exact absurd hr (by decide)
                · cases hoi; exact ⟨_, _, rfl⟩
                · cases hoi; exact ⟨_, _, rfl⟩
                · cases hoi; exact ⟨_, _, rfl⟩
                · cases hoi; exact ⟨_, _, rfl⟩
                · cases hoi; exact ⟨_, _, rfl⟩
                · cases hoi; exact ⟨_, _, rfl⟩
                · cases hoi; exact ⟨_, _, rfl⟩
                · cases hoi; exact ⟨_, _, rfl⟩
                · cases hoi; exact ⟨_, _, rfl⟩
                · exact absurd hr (by decide)
                · exact absurd hr (by decide)
                · exact absurd hr (by decide)
              case hsk =>
                intro i us w hr hS
                by_cases hi : i < 20
                · have hc : i = 0 ∨ i = 1 ∨ i = 2 ∨ i = 3 ∨ i = 4 ∨ i = 5 ∨ i = 6 ∨ i = 7 ∨ i = 8 ∨ i = 9 ∨ i = 10 ∨ i = 11 ∨ i = 12 ∨ i = 13 ∨ i = 14 ∨ i = 15 ∨ i = 16 ∨ i = 17 ∨ i = 18 ∨ i = 19 := by omega
                  rcases hc with rfl | rfl | rfl | rfl | rfl | rfl | rfl | rfl | rfl | rfl | rfl | rfl | rfl | rfl | rfl | rfl | rfl | rfl | rfl | rfl
                  · exact absurd hr (by decide)
                  · exact absurd hr (by decide)
                  · exact absurd hr (by decide)
                  · exact absurd hr (by decide)
                  · exact absurd hr (by decide)
                  · exact absurd hr (by decide)
                  · exact absurd hr (by decide)
                  · exact absurd hr (by decide)
                  · exact rfl
                  · exact rfl
                  · exact rfl
                  · exact rfl
                  · exact rfl
                  · exact rfl
                  · exact rfl
                  · exact rfl
                  · exact rfl
                  · exact absurd hr (by decide)
                  · exact absurd hr (by decide)
                  · exact absurd hr (by decide)
                · exact absurd hr (by rw [show twEN i = true from by unfold twEN; simp; omega]; decide)
              case refine_1 =>
                intro hrun a' w9 hS h0 hd
                have e7 : a'.tmps[7]?.getD undef = .bool true := evG (h0 7 (by kernel_rfl))
                refine Does2.value (.bool true) (w' := w9) ?_ ⟨rfl, hS, Below.refl _ _⟩
                clear hS h0 hd hrun
                go_simp
              case refine_2 =>
                intro hrun a' w9 hS h0 hd
                have e97 : a'.tmps[97]?.getD undef = .bool true := evG (hd 0 List.mem_cons_self)
                refine Does2.value (.bool true) (w' := w9) ?_ ⟨rfl, hS, Below.refl _ _⟩
                clear hS h0 hd hrun
                go_simp
              case refine_3 =>
                intro hrun a' w9 hS h0 hd
                have e4 : a'.tmps[4]?.getD undef = .pointer (some ⟨w.heap.size + 1, 0, none⟩) := evG (h0 4 (by kernel_rfl))
                refine Does2.value (.pointer (some ⟨w.heap.size + 1, 1, none⟩)) (w' := w9) ?_ ⟨rfl, hS, Below.refl _ _⟩
                clear hS h0 hd hrun
                go_simp
              case refine_4 =>
                intro hrun a' w9 hS h0 hd
                have e99 : a'.tmps[99]?.getD undef = .pointer (some ⟨w.heap.size + 1, 1, none⟩) := evG (hd 2 List.mem_cons_self)
                have c0 := (hS.cell (cell_lt K1.out)).trans K1.out
                refine Does2.value (.int .u32 g) (w' := w9) ?_ ⟨rfl, hS, Below.refl _ _⟩
                clear hS h0 hd hrun
                go_simp
              case refine_5 =>
                intro hrun a' w9 hS h0 hd
                have e5 : a'.tmps[5]?.getD undef = .pointer (some ⟨w.heap.size + 1 + 1, 0, none⟩) := evG (h0 5 (by kernel_rfl))
                refine Does2.value (.pointer (some ⟨w.heap.size + 1 + 1, 1, none⟩)) (w' := w9) ?_ ⟨rfl, hS, Below.refl _ _⟩
                clear hS h0 hd hrun
                go_simp
              case refine_6 =>
                intro hrun a' w9 hS h0 hd
                have e101 : a'.tmps[101]?.getD undef = .pointer (some ⟨w.heap.size + 1 + 1, 1, none⟩) := evG (hd 4 List.mem_cons_self)
                have c0 := (hS.cell (cell_lt K2.out)).trans K2.out
                refine Does2.value (.int .u32 g2) (w' := w9) ?_ ⟨rfl, hS, Below.refl _ _⟩
                clear hS h0 hd hrun
                go_simp
              case refine_7 =>
                intro hrun a' w9 hS h0 hd
                have e100 : a'.tmps[100]?.getD undef = .int .u32 g := evG (hd 3 List.mem_cons_self)
                have e102 : a'.tmps[102]?.getD undef = .int .u32 g2 := evG (hd 5 (List.mem_cons_of_mem _ List.mem_cons_self))
                refine Does2.value (.bool true) (w' := w9) ?_ ⟨rfl, hS, Below.refl _ _⟩
                clear hS h0 hd hrun
                go_simp
              case refine_8 =>
                intro hrun a' w9 hS h0 hd
                have e103 : a'.tmps[103]?.getD undef = .bool true := evG (hd 6 List.mem_cons_self)
                refine Does2.value (.bool true) (w' := w9) ?_ ⟨rfl, hS, Below.refl _ _⟩
                clear hS h0 hd hrun
                go_simp
              case refine_9 =>
                intro hrun a' w9 hS h0 hd
                exact absurd hrun (by decide)
              case refine_10 =>
                intro hrun a' w9 hS h0 hd
                exact absurd hrun (by decide)
              case refine_11 =>
                intro hrun a' w9 hS h0 hd
                exact absurd hrun (by decide)
              case refine_12 =>
                intro hrun a' w9 hS h0 hd
                exact absurd hrun (by decide)
              case refine_13 =>
                intro hrun a' w9 hS h0 hd
                exact absurd hrun (by decide)
              case refine_14 =>
                intro hrun a' w9 hS h0 hd
                exact absurd hrun (by decide)
              case refine_15 =>
                intro hrun a' w9 hS h0 hd
                exact absurd hrun (by decide)
              case refine_16 =>
                intro hrun a' w9 hS h0 hd
                exact absurd hrun (by decide)
              case refine_17 =>
                intro hrun a' w9 hS h0 hd
                exact absurd hrun (by decide)
              case refine_18 =>
                intro hrun a' w9 hS h0 hd
                have e104 : a'.tmps[104]?.getD undef = .bool true := evG (hd 7 List.mem_cons_self)
                have e113 : a'.tmps[113]?.getD undef = undef := evG (hd 16 (List.mem_cons_of_mem _ List.mem_cons_self))
                refine Does2.value (.bool true) (w' := w9) ?_ ⟨rfl, hS, Below.refl _ _⟩
                clear hS h0 hd hrun
                go_simp
              case refine_19 =>
                intro hrun a' w9 hS h0 hd
                have e98 : a'.tmps[98]?.getD undef = .bool true := evG (hd 1 List.mem_cons_self)
                have e114 : a'.tmps[114]?.getD undef = .bool true := evG (hd 17 (List.mem_cons_of_mem _ List.mem_cons_self))
                refine Does2.value (.bool true) (w' := w9) ?_ ⟨rfl, hS, Below.refl _ _⟩
                clear hS h0 hd hrun
                go_simp
              case refine_20 =>
                intro hrun a' w9 hS h0 hd
                have e115 : a'.tmps[115]?.getD undef = .bool true := evG (hd 18 List.mem_cons_self)
                refine Does2.value (.bool true) (w' := w9) ?_ ⟨rfl, hS, Below.refl _ _⟩
                clear hS h0 hd hrun
                go_simp
              case hend =>
                intro f w9 hS hv
                have v6 := hv 19 (by decide)
                replace v6 : f 6 = .bool true := v6
                simp only [putAll, Act.put, List.setIfInBounds_toArray, List.set_cons_zero, List.set_cons_succ, v6]
                have BB := Lib.hid (BB.out.trans (hS.mono BB.out.size))
                clear hS hv v6
                go_wp2_with fail
                go_ret
                exact ⟨rfl, BB.out⟩
            · have HWA : Hid (wants g2 ss5 = (p1, l1)) := Lib.hid ((HWO.out hgg).trans HWB.out)
              have hgg1 : (g == g2) = false := by simpa using hgg
              clear hgg
              refine wp_region_each3 (twNV w.heap.size a a5 n c n5 c5 g g2 p1 l1) (fun W => Below w108.heap.size w108 W) (fun _ A B => Below A.heap.size A B) twND [97, 98, 99, 100, 101, 102, 103, 104, 105, 106, 107, 108, 109, 110, 111, 112, 113, 114, 115, 6] (by kernel_rfl) (by kernel_rfl) (by kernel_rfl) (Below.refl _ w108).drew
                (fun i j oi oj v us A B hoi hoj hij hw hSA hr hv => twN_st _ _ _ _ _ _ _ _ _ _ _ hr hv) ?hgd
                ⟨?_, ?_, ?_, ?_, ?_, ?_, ?_, ?_, ?_, ?_, ?_, ?_, ?_, ?_, ?_, ?_, ?_, ?_, ?_, ?_, trivial⟩ ?hend
              case hgd =>
                intro i o g b hoi hog v us w hv
                have hi : i < 20 := (Array.getElem?_eq_some_iff.1 hoi).1
                have hc : i = 0 ∨ i = 1 ∨ i = 2 ∨ i = 3 ∨ i = 4 ∨ i = 5 ∨ i = 6 ∨ i = 7 ∨ i = 8 ∨ i = 9 ∨ i = 10 ∨ i = 11 ∨ i = 12 ∨ i = 13 ∨ i = 14 ∨ i = 15 ∨ i = 16 ∨ i = 17 ∨ i = 18 ∨ i = 19 := by omega
                rcases hc with rfl | rfl | rfl | rfl | rfl | rfl | rfl | rfl | rfl | rfl | rfl | rfl | rfl | rfl | rfl | rfl | rfl | rfl | rfl | rfl
                · cases hoi; cases hog
                · cases hoi; cases hog
                · cases hoi; cases hog; exact hv
                · cases hoi; cases hog; exact hv
                · cases hoi; cases hog; exact hv
                · cases hoi; cases hog; exact hv
                · cases hoi; cases hog; exact hv
                · cases hoi; cases hog; exact hv
                · cases hoi; cases hog; exact hv
                · cases hoi; cases hog; exact hv
                · cases hoi; cases hog; exact hv
                · cases hoi; cases hog; exact hv
                · cases hoi; cases hog; exact hv
                · cases hoi; cases hog; exact hv
                · cases hoi; cases hog; exact hv
                · cases hoi; cases hog; exact hv
                · cases hoi; cases hog; exact hv
                · cases hoi; cases hog; exact hv
                · cases hoi; cases hog
                · cases hoi; cases hog
              case refine_1 =>
                intro a' w9 hS h0 hd
                have e7 : a'.tmps[7]?.getD undef = .bool true := evG (h0 7 (by kernel_rfl))
                refine Does2.value (.bool true) (w' := w9) ?_ ⟨rfl, hS, Below.refl _ _⟩
                clear hS h0 hd
                go_simp
              case refine_2 =>
                intro a' w9 hS h0 hd
                have e97 : a'.tmps[97]?.getD undef = .bool true := evG (hd 0 List.mem_cons_self)
                refine Does2.value (.bool true) (w' := w9) ?_ ⟨rfl, hS, Below.refl _ _⟩
                clear hS h0 hd
                go_simp
              case refine_3 =>
                intro a' w9 hS h0 hd
                have e4 : a'.tmps[4]?.getD undef = .pointer (some ⟨w.heap.size + 1, 0, none⟩) := evG (h0 4 (by kernel_rfl))
                refine Does2.value (.pointer (some ⟨w.heap.size + 1, 1, none⟩)) (w' := w9) ?_ ⟨rfl, hS, Below.refl _ _⟩
                clear hS h0 hd
                go_simp
              case refine_4 =>
                intro a' w9 hS h0 hd
                have e99 : a'.tmps[99]?.getD undef = .pointer (some ⟨w.heap.size + 1, 1, none⟩) := evG (hd 2 List.mem_cons_self)
                have c0 := (hS.cell (cell_lt K1.out)).trans K1.out
                refine Does2.value (.int .u32 g) (w' := w9) ?_ ⟨rfl, hS, Below.refl _ _⟩
                clear hS h0 hd
                go_simp
              case refine_5 =>
                intro a' w9 hS h0 hd
                have e5 : a'.tmps[5]?.getD undef = .pointer (some ⟨w.heap.size + 1 + 1, 0, none⟩) := evG (h0 5 (by kernel_rfl))
                refine Does2.value (.pointer (some ⟨w.heap.size + 1 + 1, 1, none⟩)) (w' := w9) ?_ ⟨rfl, hS, Below.refl _ _⟩
                clear hS h0 hd
                go_simp
              case refine_6 =>
                intro a' w9 hS h0 hd
                have e101 : a'.tmps[101]?.getD undef = .pointer (some ⟨w.heap.size + 1 + 1, 1, none⟩) := evG (hd 4 List.mem_cons_self)
                have c0 := (hS.cell (cell_lt K2.out)).trans K2.out
                refine Does2.value (.int .u32 g2) (w' := w9) ?_ ⟨rfl, hS, Below.refl _ _⟩
                clear hS h0 hd
                go_simp
              case refine_7 =>
                intro a' w9 hS h0 hd
                have e100 : a'.tmps[100]?.getD undef = .int .u32 g := evG (hd 3 List.mem_cons_self)
                have e102 : a'.tmps[102]?.getD undef = .int .u32 g2 := evG (hd 5 (List.mem_cons_of_mem _ List.mem_cons_self))
                refine Does2.value (.bool false) (w' := w9) ?_ ⟨rfl, hS, Below.refl _ _⟩
                clear hS h0 hd
                go_simp
              case refine_8 =>
                intro a' w9 hS h0 hd
                have e103 : a'.tmps[103]?.getD undef = .bool false := evG (hd 6 List.mem_cons_self)
                refine Does2.value (.bool false) (w' := w9) ?_ ⟨rfl, hS, Below.refl _ _⟩
                clear hS h0 hd
                go_simp
              case refine_9 =>
                intro a' w9 hS h0 hd
                have e8 : a'.tmps[8]?.getD undef = .pointer (some ⟨w104.heap.size, 0, none⟩) := evG (h0 8 (by kernel_rfl))
                have c0 := (hS.cell (cell_lt K5.out)).trans K5.out
                refine Does2.value (.agg #[.slice a5 n5 c5]) (w' := w9) ?_ ⟨rfl, hS, Below.refl _ _⟩
                clear hS h0 hd
                go_simp
              case refine_10 =>
                intro a' w9 hS h0 hd
                have e5 : a'.tmps[5]?.getD undef = .pointer (some ⟨w.heap.size + 1 + 1, 0, none⟩) := evG (h0 5 (by kernel_rfl))
                refine Does2.value (.pointer (some ⟨w.heap.size + 1 + 1, 1, none⟩)) (w' := w9) ?_ ⟨rfl, hS, Below.refl _ _⟩
                clear hS h0 hd
                go_simp
              case refine_11 =>
                intro a' w9 hS h0 hd
                have e106 : a'.tmps[106]?.getD undef = .pointer (some ⟨w.heap.size + 1 + 1, 1, none⟩) := evG (hd 9 List.mem_cons_self)
                have c0 := (hS.cell (cell_lt K2.out)).trans K2.out
                refine Does2.value (.int .u32 g2) (w' := w9) ?_ ⟨rfl, hS, Below.refl _ _⟩
                clear hS h0 hd
                go_simp
              case refine_12 =>
                intro a' w9 hS h0 hd
                have e105 : a'.tmps[105]?.getD undef = .agg #[.slice a5 n5 c5] := evG (hd 8 List.mem_cons_self)
                have e107 : a'.tmps[107]?.getD undef = .int .u32 g2 := evG (hd 10 (List.mem_cons_of_mem _ List.mem_cons_self))
                refine Does2.call 32 #[.agg #[.slice a5 n5 c5], .int .u32 g2] (w' := w9) ?_ ((hWants a5 n5 c5 ss5 g2 w9 HN5.out HF5.out (T5.out.below hS)).mono ?_)
                · clear hS h0 hd
                  go_simp
                · rw [HWA.out]
                  rintro e w8 ⟨⟨a8, c8, rfl, hA8, hf8⟩, hb⟩
                  exact ⟨_, rfl, ⟨a8, c8, rfl, hA8⟩, hS.trans (hb.mono hS.size), hb⟩
              case refine_13 =>
                intro a' w9 hS h0 hd
                have e3 : a'.tmps[3]?.getD undef = .pointer (some ⟨w.heap.size, 0, none⟩) := evG (h0 3 (by kernel_rfl))
                have c0 := (hS.cell (cell_lt K0.out)).trans K0.out
                refine Does2.value (.agg #[.slice a n c]) (w' := w9) ?_ ⟨rfl, hS, Below.refl _ _⟩
                clear hS h0 hd
                go_simp
              case refine_14 =>
                intro a' w9 hS h0 hd
                have e5 : a'.tmps[5]?.getD undef = .pointer (some ⟨w.heap.size + 1 + 1, 0, none⟩) := evG (h0 5 (by kernel_rfl))
                refine Does2.value (.pointer (some ⟨w.heap.size + 1 + 1, 1, none⟩)) (w' := w9) ?_ ⟨rfl, hS, Below.refl _ _⟩
                clear hS h0 hd
                go_simp
              case refine_15 =>
                intro a' w9 hS h0 hd
                have e110 : a'.tmps[110]?.getD undef = .pointer (some ⟨w.heap.size + 1 + 1, 1, none⟩) := evG (hd 13 List.mem_cons_self)
                have c0 := (hS.cell (cell_lt K2.out)).trans K2.out
                refine Does2.value (.int .u32 g2) (w' := w9) ?_ ⟨rfl, hS, Below.refl _ _⟩
                clear hS h0 hd
                go_simp
              case refine_16 =>
                intro a' w9 hS h0 hd
                have e109 : a'.tmps[109]?.getD undef = .agg #[.slice a n c] := evG (hd 12 List.mem_cons_self)
                have e111 : a'.tmps[111]?.getD undef = .int .u32 g2 := evG (hd 14 (List.mem_cons_of_mem _ List.mem_cons_self))
                refine Does2.call 32 #[.agg #[.slice a n c], .int .u32 g2] (w' := w9) ?_ ((hWants a n c ss g2 w9 HX.out HFW.out (SS.out.below hS)).mono ?_)
                · clear hS h0 hd
                  go_simp
                · rw [HWB.out]
                  rintro e w8 ⟨⟨a8, c8, rfl, hA8, hf8⟩, hb⟩
                  exact ⟨_, rfl, ⟨a8, c8, rfl, hA8⟩, hS.trans (hb.mono hS.size), hb⟩
              case refine_17 =>
                intro a' w9 hS h0 hd
                obtain ⟨a31, c31, e108, h31⟩ := hd 11 List.mem_cons_self
                replace e108 := evG e108
                obtain ⟨a32, c32, e112, h32⟩ := hd 15 (List.mem_cons_of_mem _ List.mem_cons_self)
                replace e112 := evG e112
                refine Does2.call 31 #[.agg #[.bool p1, .slice a31 l1.length c31], .agg #[.bool p1, .slice a32 l1.length c32]] (w' := w9) ?_ ((rSameG p1 p1 a31 a32 _ _ c31 c32 l1 l1 w9 rfl rfl (by have := HLL.out; omega) h31 h32).mono ?_)
                · clear hS h0 hd h31 h32
                  go_simp
                · rw [decide_eq_true (⟨rfl, rfl⟩ : p1 = p1 ∧ l1 = l1)]
                  rintro e w8 ⟨rfl, hb⟩
                  exact ⟨_, rfl, rfl, hS.trans (hb.mono hS.size), hb⟩
              case refine_18 =>
                intro a' w9 hS h0 hd
                have e104 : a'.tmps[104]?.getD undef = .bool false := evG (hd 7 List.mem_cons_self)
                have e113 : a'.tmps[113]?.getD undef = .bool true := evG (hd 16 (List.mem_cons_of_mem _ List.mem_cons_self))
                refine Does2.value (.bool true) (w' := w9) ?_ ⟨rfl, hS, Below.refl _ _⟩
                clear hS h0 hd
                go_simp
              case refine_19 =>
                intro a' w9 hS h0 hd
                have e98 : a'.tmps[98]?.getD undef = .bool true := evG (hd 1 List.mem_cons_self)
                have e114 : a'.tmps[114]?.getD undef = .bool true := evG (hd 17 (List.mem_cons_of_mem _ List.mem_cons_self))
                refine Does2.value (.bool true) (w' := w9) ?_ ⟨rfl, hS, Below.refl _ _⟩
                clear hS h0 hd
                go_simp
              case refine_20 =>
                intro a' w9 hS h0 hd
                have e115 : a'.tmps[115]?.getD undef = .bool true := evG (hd 18 List.mem_cons_self)
                refine Does2.value (.bool true) (w' := w9) ?_ ⟨rfl, hS, Below.refl _ _⟩
                clear hS h0 hd
                go_simp
              case hend =>
                intro f w9 hS hv
                have v6 := hv 19 (by decide)
                replace v6 : f 6 = .bool true := v6
                simp only [putAll, Act.put, List.setIfInBounds_toArray, List.set_cons_zero, List.set_cons_succ, v6]
                have BB := Lib.hid (BB.out.trans (hS.mono BB.out.size))
                clear hS hv v6
                go_wp2_with fail
                go_ret
                exact ⟨rfl, BB.out⟩
          · have q5' : (100 : Int) < (srcs.length : Int) + (srcs2.length : Int) := by omega
            go_wp2_with fail
            go_ret
            exact ⟨rfl, BB.out⟩
      · have q3' : (30 : Int) < (n : Int) := by omega
        go_wp2_with fail
        go_ret
        exact ⟨rfl, BB.out⟩
    · rw [decide_eq_false q2]
      clear q2
      go_wp2_with fail
      go_ret
      exact ⟨rfl, BB.out⟩
  · rw [decide_eq_false q1]
    clear q1
    go_wp2_with fail
    go_ret
    exact ⟨rfl, BB.out⟩

set_option maxRecDepth 100000 in
theorem contract (H : Type) (enc : TypeId × Value → H) (W : World) (base : Nat) (args : Array Value) (ds gs : List (DataW H)) (before : List MemPlace)
    (hval : ∀ (j : Nat) t v, Try.f10.params[j]? = some t → args[j]? = some v → Value.okWide Try.prog W .any base t v)
    (hW : DataW.Whole enc Try.prog Try.f10.params.toList Rows.hostTwoSpec.vars false W args.toList ds gs before) (hsz : (DataW.weightsEach Try.prog (Try.f10.params.toList ++ Rows.hostTwoSpec.plain.varTypes Try.prog) (ds ++ gs)).all (· ≤ reachBytes) = true) :
    Calls Try.prog 10 args W fun e W' => ∃ v, e = .returned v ∧ Rows.hostTwoSpec.post enc Try.prog Try.f10 false true false false W args v W' := by
  have hW' := hW
  obtain ⟨p, q, hA0, hV, rfl, hfz, hnd⟩ := hW
  have hA : DataW.TrodAll enc Try.prog W 0 (fun _ => true) true Try.f10.params.toList args.toList ds p := hA0
  rw [Try.params10] at hA hval
  obtain ⟨v0, vs0, d0, ds0, p0, q0, hargs, rfl, rfl, h0, r0⟩ := trodAll_cons hA
  obtain ⟨v1, vs1, d1, ds1, p1, q1, rfl, rfl, rfl, h1, r1⟩ := trodAll_cons r0
  obtain ⟨v2, vs2, d2, ds2, p2, q2, rfl, rfl, rfl, h2, r2⟩ := trodAll_cons r1
  obtain ⟨rfl, rfl, rfl⟩ := trodAll_nil r2
  obtain rfl : args = #[v0, v1, v2] := by cases args; simp_all
  obtain ⟨rfl, rfl⟩ := trodVars_none hV
  have k0 := h0
  have lt0 : ∀ x ∈ p0, x.block < W.heap.size := by obtain ⟨m, hm⟩ := k0; exact DataW.trod_lt m _ _ _ hm
  have k1 := h1
  have lt1 : ∀ x ∈ p1, x.block < W.heap.size := by obtain ⟨m, hm⟩ := k1; exact DataW.trod_lt m _ _ _ hm
  have k2 := h2
  have lt2 : ∀ x ∈ p2, x.block < W.heap.size := by obtain ⟨m, hm⟩ := k2; exact DataW.trod_lt m _ _ _ hm
  obtain ⟨a0, c0, s0, rfl, y0⟩ := open_host (hval 0 36 v0 rfl rfl) h0 (fun x hx => by simpa using List.all_eq_true.1 hsz _ (DataW.weights_mem_each (j := 0) rfl rfl x hx))
  obtain ⟨s1, rfl, y1⟩ := open_sock (hval 1 38 v1 rfl rfl) h1 (fun x hx => by simpa using List.all_eq_true.1 hsz _ (DataW.weights_mem_each (j := 1) rfl rfl x hx))
  obtain ⟨s2, rfl, y2⟩ := open_sock (hval 2 38 v2 rfl rfl) h2 (fun x hx => by simpa using List.all_eq_true.1 hsz _ (DataW.weights_mem_each (j := 2) rfl rfl x hx))
  clear hA0
  refine (walk W a0 c0 s0 y0 s1 y1 s2 y2).mono fun e W' ⟨he, bel⟩ => ?_
  subst he
  exact ⟨_, rfl, _, _, _, [], _, [], hW', trodAll_mk1 (shut_bool Try.underlying4 _), (trodAll_cons_mk (Below.trod laidOut (by kernel_rfl) (of_decide_eq_true (by kernel_rfl)) k0 bel lt0) (trodAll_cons_mk (Below.trod laidOut (by kernel_rfl) (of_decide_eq_true (by kernel_rfl)) k1 bel lt1) (trodAll_cons_mk (Below.trod laidOut (by kernel_rfl) (of_decide_eq_true (by kernel_rfl)) k2 bel lt2) trodAll_mk0))), rfl, bel.frame _, fun h => by cases h⟩

set_option maxRecDepth 100000 in
theorem lifted (os : Os) (started : os.Started) (H : Type) (enc : TypeId × Value → H) :
    ReturnsInHanded {} Try.checked os 10 .any (Rows.hostTwoSpec.pre6 enc Try.prog Try.f10 Rows.hostTwoRow.domain false) (Rows.hostTwoSpec.post enc Try.prog Try.f10 false true false false) := by
  refine returnsInHanded_of_change_sized (C := Try.checked) own started (by kernel_rfl) Try.func10
    (ChangeSpec.witness6 (enc := enc) (C := Try.checked) false ⟨#[], #[(.agg #[.slice none 0 0]), (.agg #[.int .i64 0, .int .u32 0, .bool false, .slice none 0 0]), (.agg #[.int .i64 0, .int .u32 0, .bool false, .slice none 0 0])], []⟩ 8 (by kernel_rfl) (by kernel_rfl) (by kernel_rfl) (by kernel_rfl)) ?_
  intro W base args ds gs before hval hW hcnd hsz _
  exact contract H enc W base args ds gs before hval hW hsz
theorem said : Rows.HostTwoSaid :=
  OpenClaim.holds_of_wide 10 Try.f10 rfl rfl rfl rfl rfl rfl rfl ⟨rfl, rfl, rfl, rfl, rfl⟩ rfl rfl rfl rfl rfl (by kernel_rfl) Try.func10 (by kernel_rfl)
    (of_decide_eq_true (by kernel_rfl)) (by unfold Func.isWrapper; first | (rw [if_pos (by decide +kernel)]; kernel_rfl) | (rw [if_neg (by decide +kernel)]; exact ⟨rfl, rfl⟩))
    (fun os started H enc _ => lifted os started H enc)
#print axioms said
end Go.Proofs.Ytmcbbccbonadjaa.hostTwo
