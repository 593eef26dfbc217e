/- The law HostStays: every call returns true, and its arguments read behind the call as before it. Condition: none but the row's own. -/
import Derived.Test.YtmcbbccbonadjaaW13
import Derived.BigQuiet
namespace Go.Proofs.Ytmcbbccbonadjaa.hostStays
set_option linter.unusedVariables false
open Go.ChangeShapes Go.WideShapes Go.ChangeAt Go.RowKit
open Go.ChangeMaps (open_string shut_string)

set_option linter.unusedSimpArgs false in
set_option maxRecDepth 100000 in
set_option maxHeartbeats 16000000 in
theorem walk (w : World) (a : Option Addr) (c : Nat) (ss : List Sk) (hin : HIn w a ss c) (s : Sk) (hsin : SIn w s) :
    Calls Try.prog 6 #[.agg #[.slice a (List.length ss) c], .agg #[.int .i64 s.id, .int .u32 s.g, .bool s.f.ex, s.f.sl]] w fun e w' => e = .returned (.bool true) ∧ Below w.heap.size w w' := by
  obtain ⟨id, g, ⟨ex, srcs, fa, fc⟩⟩ := s
  obtain ⟨n, hn⟩ : ∃ n, ss.length = n := ⟨_, rfl⟩
  obtain ⟨hS, hn0, hsl, hni, hnc⟩ := hin
  obtain ⟨hF, hg, hs0⟩ := hsin
  simp only [Flt.sl] at hF hg hs0 ⊢
  rw [hn] at hn0 hnc ⊢
  have HX := Lib.hid hn
  have HSL := Lib.hid hsl
  have HNI := Lib.hid hni
  have hb1 := bel1 w (.cells #[.slice a n c] 36)
  have p := host_new w (.slice a n c)
  have hb2 := bel1 (w.alloc (.cells #[.slice a n c] 36)) (.cells #[.int .i64 id, .int .u32 g, .bool ex, .slice fa srcs.length fc] 38)
  have q := sock_new (w.alloc (.cells #[.slice a n c] 36)) (.int .i64 id) (.int .u32 g) (.bool ex) (.slice fa srcs.length fc)
  rw [World.size_alloc] at q
  have C0 := Lib.hid ((hb2.cell (cell_lt p)).trans p)
  have Q := Lib.hid q
  have hbb := hb1.trans (hb2.mono hb1.size)
  have BB := Lib.hid hbb
  have SS := Lib.hid (hS.below hbb)
  have SF := Lib.hid (hF.below hbb)
  clear hn hS hsl hni hF hb1 hb2 p q hbb
  go_enter Try.func6, Try.ntmps6
  go_wp2_with fail
  generalize (w.alloc (.cells #[.slice a n c] 36)).alloc (.cells #[.int .i64 id, .int .u32 g, .bool ex, .slice fa srcs.length fc] 38) = w1 at *
  have c0 := C0.out
  obtain ⟨s0, s1, s2, s3⟩ := Q.out
  clear C0 Q
  refine (hShown _).mono ?_
  rintro e w101 ⟨rfl, hb⟩
  have BB := Lib.hid (BB.out.trans (hb.mono BB.out.size))
  have SS := Lib.hid (SS.out.below hb)
  have SF := Lib.hid (SF.out.below hb)
  replace c0 := (hb.cell (cell_lt c0)).trans c0
  replace s0 := (hb.cell (cell_lt s0)).trans s0
  replace s1 := (hb.cell (cell_lt s1)).trans s1
  replace s2 := (hb.cell (cell_lt s2)).trans s2
  replace s3 := (hb.cell (cell_lt s3)).trans s3
  clear hb
  go_wp2_with fail
  refine (rFewH a n c ss _ HX.out hn0 HSL.out SS.out).mono ?_
  rintro e w102 ⟨rfl, hb⟩
  have BB := Lib.hid (BB.out.trans (hb.mono BB.out.size))
  have SS := Lib.hid (SS.out.below hb)
  have SF := Lib.hid (SF.out.below hb)
  replace c0 := (hb.cell (cell_lt c0)).trans c0
  replace s0 := (hb.cell (cell_lt s0)).trans s0
  replace s1 := (hb.cell (cell_lt s1)).trans s1
  replace s2 := (hb.cell (cell_lt s2)).trans s2
  replace s3 := (hb.cell (cell_lt s3)).trans s3
  clear hb
  by_cases q1 : ss.length + fl ss ≤ 600
  · rw [decide_eq_true q1]
    have HQ1 := Lib.hid q1
    clear q1
    go_wp2_with fail
    refine (rRightH a n c ss _ HX.out hn0 (fun s hs => by have h1 := fl_mem hs; have h2 := HQ1.out; omega) SS.out).mono ?_
    rintro e w103 ⟨rfl, hb⟩
    have BB := Lib.hid (BB.out.trans (hb.mono BB.out.size))
    have SS := Lib.hid (SS.out.below hb)
    have SF := Lib.hid (SF.out.below hb)
    replace c0 := (hb.cell (cell_lt c0)).trans c0
    replace s0 := (hb.cell (cell_lt s0)).trans s0
    replace s1 := (hb.cell (cell_lt s1)).trans s1
    replace s2 := (hb.cell (cell_lt s2)).trans s2
    replace s3 := (hb.cell (cell_lt s3)).trans s3
    clear hb
    by_cases q2 : okH ss
    · rw [decide_eq_true q2]
      have HOK := Lib.hid q2
      have HFW := Lib.hid (okH_few q2)
      have hn32 : n ≤ 32 := by rw [← HX.out]; exact q2.2.2
      clear q2
      by_cases q3 : srcs.length ≤ 100
      · have q3' : decide ((100 : Int) < (srcs.length : Int)) = false := decide_eq_false (by omega)
        go_wp2_with fail
        have hP := hPut a n c ss ⟨id, g, ⟨ex, srcs, fa, fc⟩⟩ w103 HX.out (by omega) hnc HNI.out HOK.out.2.1 HFW.out (by show srcs.length ≤ _; omega) SS.out SF.out hg
        simp only [Flt.sl] at hP
        refine (hP).mono ?_
        rintro e w104 ⟨⟨a5, c5, ss5, p5, d5, rs5, rfl, ⟨h1, h2, h3, h4⟩, m1, -, -⟩, hb⟩
        have N5 := Lib.hid h1
        have T5 := Lib.hid h2
        have G5 := Lib.hid h4
        have J5 := Lib.hid (flat_nil' h3)
        have R5 := Lib.hid m1
        clear h1 h2 h3 h4 m1
        have BB := Lib.hid (BB.out.trans (hb.mono BB.out.size))
        have SS := Lib.hid (SS.out.below hb)
        have SF := Lib.hid (SF.out.below hb)
        replace c0 := (hb.cell (cell_lt c0)).trans c0
        replace s0 := (hb.cell (cell_lt s0)).trans s0
        replace s1 := (hb.cell (cell_lt s1)).trans s1
        replace s2 := (hb.cell (cell_lt s2)).trans s2
        replace s3 := (hb.cell (cell_lt s3)).trans s3
        clear hb
        clear hP
        obtain ⟨er, her⟩ : ∃ er, putE ss ⟨id, g, ⟨ex, srcs, fa, fc⟩⟩ = er := ⟨_, rfl⟩
        rw [her]
        have HER := Lib.hid her
        clear her
        obtain ⟨n5, hn5⟩ : ∃ n5, ss5.length = n5 := ⟨_, rfl⟩
        obtain ⟨r5, hr5⟩ : ∃ r5, rs5.length = r5 := ⟨_, rfl⟩
        rw [hn5] at G5 ⊢
        rw [hr5]
        have HN5 := Lib.hid hn5
        have HR5 := Lib.hid hr5
        clear hn5 hr5
        have hbn := bel1 w104 (.cells #[.slice a5 n5 c5] 36)
        have b6 := host_new w104 (.slice a5 n5 c5)
        have SS := Lib.hid (SS.out.below hbn)
        have SF := Lib.hid (SF.out.below hbn)
        have T5 := Lib.hid (T5.out.below hbn)
        have BB := Lib.hid (BB.out.trans (hbn.mono BB.out.size))
        replace c0 := (hbn.cell (cell_lt c0)).trans c0
        replace s0 := (hbn.cell (cell_lt s0)).trans s0
        replace s1 := (hbn.cell (cell_lt s1)).trans s1
        replace s2 := (hbn.cell (cell_lt s2)).trans s2
        replace s3 := (hbn.cell (cell_lt s3)).trans s3
        clear hbn
        have HK5 : Hid (okH ss5) := Lib.hid (okH_nm N5.out (putH_ok HOK.out))
        have HF5 := Lib.hid (okH_few HK5.out)
        have hn5 : n5 ≤ 32 := by rw [← HN5.out]; exact HK5.out.2.2
        by_cases he : er = 0
        · have HEQ := Lib.hid (HER.out.trans he)
          subst he
          rw [(putH_yes HEQ.out).1] at N5
          go_wp2_with fail
          generalize w104.alloc (.cells #[.slice a5 n5 c5] 36) = wa at *
          have hP := hPut a5 n5 c5 ss5 ⟨id, g, ⟨ex, srcs, fa, fc⟩⟩ wa HN5.out (by omega) G5.out J5.out HK5.out.2.1 HF5.out (by show srcs.length ≤ _; omega) T5.out SF.out hg
          simp only [Flt.sl] at hP
          refine (hP).mono ?_
          rintro e w105 ⟨⟨a6, c6, ss6, p6, d6, rs6, rfl, ⟨h1, h2, h3, h4⟩, m1, -, -⟩, hb⟩
          have N6 := Lib.hid h1
          have T6 := Lib.hid h2
          have G6 := Lib.hid h4
          have J6 := Lib.hid (flat_nil' h3)
          have R6 := Lib.hid m1
          clear h1 h2 h3 h4 m1
          have BB := Lib.hid (BB.out.trans (hb.mono BB.out.size))
          have SS := Lib.hid (SS.out.below hb)
          have SF := Lib.hid (SF.out.below hb)
          have T5 := Lib.hid (T5.out.below hb)
          replace c0 := (hb.cell (cell_lt c0)).trans c0
          replace s0 := (hb.cell (cell_lt s0)).trans s0
          replace s1 := (hb.cell (cell_lt s1)).trans s1
          replace s2 := (hb.cell (cell_lt s2)).trans s2
          replace s3 := (hb.cell (cell_lt s3)).trans s3
          replace b6 := (hb.cell (cell_lt b6)).trans b6
          clear hb
          clear hP
          have HE2 : Hid (putE ss5 ⟨id, g, ⟨ex, srcs, fa, fc⟩⟩ = 0) := Lib.hid ((putE_nm N5.out _).trans (putE_again HOK.out.2.1 HEQ.out))
          rw [HE2.out]
          rw [(putH_yes HE2.out).1] at N6
          rw [(putH_yes HE2.out).2] at R6
          have HS6 : Hid (ss6.map Sk.nm = ss5.map Sk.nm) := Lib.hid (by rw [N6.out, putL_nm N5.out, putL_again HOK.out.2.1, N5.out])
          have HR6 : Hid (rs6.length = 0) := Lib.hid (by
            have h1 : wants g (putL ss5 ⟨id, g, ⟨ex, srcs, fa, fc⟩⟩) = wants g ss5 := wants_eq ((putL_nm N5.out ⟨id, g, ⟨ex, srcs, fa, fc⟩⟩).trans (by rw [putL_again HOK.out.2.1]; exact N5.out.symm))
            have h2 := congrArg List.length R6.out
            unfold putR at h2
            simp only [] at h2
            rw [h1, change_same _ _ (wants_inc HK5.out g)] at h2
            simpa using h2)
          obtain ⟨n6, hn6⟩ : ∃ n6, ss6.length = n6 := ⟨_, rfl⟩
          rw [hn6] at G6 ⊢
          rw [HR6.out]
          have HN6 := Lib.hid hn6
          clear hn6
          have hbn := bel1 w105 (.cells #[.slice a6 n6 c6] 36)
          have b9 := host_new w105 (.slice a6 n6 c6)
          have SS := Lib.hid (SS.out.below hbn)
          have SF := Lib.hid (SF.out.below hbn)
          have T5 := Lib.hid (T5.out.below hbn)
          have T6 := Lib.hid (T6.out.below hbn)
          have BB := Lib.hid (BB.out.trans (hbn.mono BB.out.size))
          replace c0 := (hbn.cell (cell_lt c0)).trans c0
          replace s0 := (hbn.cell (cell_lt s0)).trans s0
          replace s1 := (hbn.cell (cell_lt s1)).trans s1
          replace s2 := (hbn.cell (cell_lt s2)).trans s2
          replace s3 := (hbn.cell (cell_lt s3)).trans s3
          replace b6 := (hbn.cell (cell_lt b6)).trans b6
          clear hbn
          go_wp2_with fail
          generalize w105.alloc (.cells #[.slice a6 n6 c6] 36) = wb at *
          refine (hDrop a5 n5 c5 ss5 id _ HN5.out (by omega) G5.out J5.out HK5.out.2.1 HF5.out T5.out).mono ?_
          rintro e w106 ⟨⟨a7, c7, ss7, p7, d7, rs7, rfl, ⟨h1, h2, h3, h4⟩, m1, -, -⟩, hb⟩
          have N7 := Lib.hid h1
          have T7 := Lib.hid h2
          have G7 := Lib.hid h4
          have J7 := Lib.hid (flat_nil' h3)
          have R7 := Lib.hid m1
          clear h1 h2 h3 h4 m1
          have BB := Lib.hid (BB.out.trans (hb.mono BB.out.size))
          have SS := Lib.hid (SS.out.below hb)
          have SF := Lib.hid (SF.out.below hb)
          have T5 := Lib.hid (T5.out.below hb)
          have T6 := Lib.hid (T6.out.below hb)
          replace c0 := (hb.cell (cell_lt c0)).trans c0
          replace s0 := (hb.cell (cell_lt s0)).trans s0
          replace s1 := (hb.cell (cell_lt s1)).trans s1
          replace s2 := (hb.cell (cell_lt s2)).trans s2
          replace s3 := (hb.cell (cell_lt s3)).trans s3
          replace b6 := (hb.cell (cell_lt b6)).trans b6
          replace b9 := (hb.cell (cell_lt b9)).trans b9
          clear hb
          have HD := Lib.hid (drop_nm N5.out id (putL_ris HOK.out.2.1) (putL_mem.2 (.inl rfl)) rfl)
          rw [HD.out.1]
          have HS7 : Hid (ss7.map Sk.nm = (dropL (putL ss ⟨id, g, ⟨ex, srcs, fa, fc⟩⟩) id).map Sk.nm) := Lib.hid (N7.out.trans HD.out.2)
          have HK7 : Hid (okH ss7) := Lib.hid (okH_nm HS7.out (dropL_ok (putL_ok HOK.out HEQ.out)))
          obtain ⟨n7, hn7⟩ : ∃ n7, ss7.length = n7 := ⟨_, rfl⟩
          rw [hn7] at G7 ⊢
          have HN7 := Lib.hid hn7
          have hn7' : n7 ≤ 32 := by rw [← hn7]; exact HK7.out.2.2
          have hn6' : n6 ≤ 32 := by rw [← HN6.out]; have := congrArg List.length HS6.out; simp at this; rw [this, HN5.out]; exact hn5
          obtain ⟨r7, hr7⟩ : ∃ r7, rs7.length = r7 := ⟨_, rfl⟩
          rw [hr7]
          clear hn7 hr7
          have hbn := bel1 w106 (.cells #[.slice a7 n7 c7] 36)
          have b12 := host_new w106 (.slice a7 n7 c7)
          have SS := Lib.hid (SS.out.below hbn)
          have SF := Lib.hid (SF.out.below hbn)
          have T5 := Lib.hid (T5.out.below hbn)
          have T6 := Lib.hid (T6.out.below hbn)
          have T7 := Lib.hid (T7.out.below hbn)
          have BB := Lib.hid (BB.out.trans (hbn.mono BB.out.size))
          replace c0 := (hbn.cell (cell_lt c0)).trans c0
          replace s0 := (hbn.cell (cell_lt s0)).trans s0
          replace s1 := (hbn.cell (cell_lt s1)).trans s1
          replace s2 := (hbn.cell (cell_lt s2)).trans s2
          replace s3 := (hbn.cell (cell_lt s3)).trans s3
          replace b6 := (hbn.cell (cell_lt b6)).trans b6
          replace b9 := (hbn.cell (cell_lt b9)).trans b9
          clear hbn
          go_wp2_with fail
          generalize w106.alloc (.cells #[.slice a7 n7 c7] 36) = wc at *
          go_loopw [15, 16] (fun v15 v16 wr => ∃ k q : Nat, v15 = .bool ((ss.take k).any (fun t => t.id == id)) ∧ v16 = .int .i64 (k : Int) ∧ k ≤ n ∧ wr = wc.drewN q) (fun _ v _ => n - (intOf v).toNat)
          case atStart => exact ⟨0, 0, by simp, rfl, by omega, rfl⟩
          case round =>
            obtain ⟨k, q, rfl, rfl, hk, rfl⟩ := hrel
            have d0 : ∀ q, (wc.drewN q).cell? ⟨w.heap.size, 0, none⟩ = some (.slice a n c) := fun q => c0
            have d1 : ∀ q, (wc.drewN q).cell? ⟨w.heap.size + 1, 0, none⟩ = some (.int .i64 id) := fun q => s0
            by_cases hlt : k < n
            · obtain ⟨bb, off, rfl, hc⟩ := SS.out.at (k := k) (by rw [HX.out]; exact hlt)
              obtain ⟨t, hfk⟩ : ∃ t, ss[k]? = some t := ⟨_, List.getElem?_eq_getElem (by rw [HX.out]; exact hlt)⟩
              have d2 : ∀ q, (wc.drewN q).cell? ⟨bb, off + k * 4, none⟩ = some (.int .i64 t.id) := fun q => (hc k _ hfk).1.1
              have HS := Lib.hid (any_succS hfk (fun t => t.id == id))
              have hkz : (k : Int) < (n : Int) := by omega
              have hk0 : (0 : Int) ≤ (k : Int) := by omega
              obtain ⟨bv, hbv⟩ : ∃ bv, (ss.take k).any (fun t => t.id == id) = bv := ⟨_, rfl⟩
              rw [hbv] at HS ⊢
              clear hc hfk hbv
              cases bv
              · have HS2 : Hid ((ss.take (k + 1)).any (fun t => t.id == id) = (t.id == id)) := Lib.hid (by rw [HS.out]; simp)
                go_wp2
                go_quiet (fail)
                go_wp2
                go_roundw
                case rel => exact ⟨k + 1, _, by rw [HS2.out], by go_num, by omega, rfl⟩
                case measure => simp [intOf]; omega
              · have HS2 : Hid ((ss.take (k + 1)).any (fun t => t.id == id) = true) := Lib.hid (by rw [HS.out]; simp)
                go_wp2
                go_quiet (fail)
                go_wp2
                go_roundw
                case rel => exact ⟨k + 1, _, by rw [HS2.out], by go_num, by omega, rfl⟩
                case measure => simp [intOf]; omega
            · obtain rfl : k = n := by omega
              have htk : ss.take k = ss := List.take_of_length_le (by rw [HX.out]; exact Nat.le_refl _)
              rw [htk]
              have hbq : Below wc.heap.size wc (wc.drewN q) := bdrawn (Below.refl _ _) q
              have SS := Lib.hid (SS.out.below hbq)
              have T5 := Lib.hid (T5.out.below hbq)
              have T6 := Lib.hid (T6.out.below hbq)
              have T7 := Lib.hid (T7.out.below hbq)
              have BB := Lib.hid (BB.out.trans (hbq.mono BB.out.size))
              replace c0 := (hbq.cell (cell_lt c0)).trans c0
              replace b6 := (hbq.cell (cell_lt b6)).trans b6
              replace b9 := (hbq.cell (cell_lt b9)).trans b9
              replace b12 := (hbq.cell (cell_lt b12)).trans b12
              generalize wc.drewN q = wd at *
              obtain ⟨was, hwas⟩ : ∃ was, ss.any (fun t => t.id == id) = was := ⟨_, rfl⟩
              rw [hwas]
              have HWAS := Lib.hid hwas
              clear hbq d0 d1 htk s0 s1 s2 s3 hwas
              go_wp2_with fail
              refine (rRightH a5 n5 c5 ss5 _ HN5.out (by omega) (fun s hs => by have := (HK5.out.1 s hs).2.2.1; omega) T5.out).mono ?_
              rintro e w201 ⟨rfl, hb⟩
              have BB := Lib.hid (BB.out.trans (hb.mono BB.out.size))
              have SS := Lib.hid (SS.out.below hb)
              have T5 := Lib.hid (T5.out.below hb)
              have T6 := Lib.hid (T6.out.below hb)
              have T7 := Lib.hid (T7.out.below hb)
              replace c0 := (hb.cell (cell_lt c0)).trans c0
              replace b6 := (hb.cell (cell_lt b6)).trans b6
              replace b9 := (hb.cell (cell_lt b9)).trans b9
              replace b12 := (hb.cell (cell_lt b12)).trans b12
              clear hb
              rw [decide_eq_true HK5.out]
              have HK6 : Hid (okH ss6) := Lib.hid (okH_nm HS6.out HK5.out)
              go_wp2_with fail
              refine (rSameH a5 a6 n5 n6 c5 c6 ss5 ss6 _ HN5.out HN6.out (by omega) (by omega) (fun s hs => by have := (HK5.out.1 s hs).2.2.1; omega) (fun s hs => by have := (HK6.out.1 s hs).2.2.1; omega) T5.out T6.out).mono ?_
              rintro e w202 ⟨rfl, hb⟩
              have BB := Lib.hid (BB.out.trans (hb.mono BB.out.size))
              have SS := Lib.hid (SS.out.below hb)
              have T5 := Lib.hid (T5.out.below hb)
              have T6 := Lib.hid (T6.out.below hb)
              have T7 := Lib.hid (T7.out.below hb)
              replace c0 := (hb.cell (cell_lt c0)).trans c0
              replace b6 := (hb.cell (cell_lt b6)).trans b6
              replace b9 := (hb.cell (cell_lt b9)).trans b9
              replace b12 := (hb.cell (cell_lt b12)).trans b12
              clear hb
              rw [decide_eq_true HS6.out.symm]
              go_wp2_with fail
              refine (rRightH a7 n7 c7 ss7 _ HN7.out (by omega) (fun s hs => by have := (HK7.out.1 s hs).2.2.1; omega) T7.out).mono ?_
              rintro e w203 ⟨rfl, hb⟩
              have BB := Lib.hid (BB.out.trans (hb.mono BB.out.size))
              have SS := Lib.hid (SS.out.below hb)
              have T5 := Lib.hid (T5.out.below hb)
              have T6 := Lib.hid (T6.out.below hb)
              have T7 := Lib.hid (T7.out.below hb)
              replace c0 := (hb.cell (cell_lt c0)).trans c0
              replace b6 := (hb.cell (cell_lt b6)).trans b6
              replace b9 := (hb.cell (cell_lt b9)).trans b9
              replace b12 := (hb.cell (cell_lt b12)).trans b12
              clear hb
              rw [decide_eq_true HK7.out]
              cases was
              · have HSL7 : Hid (ss7.map Sk.nm = ss.map Sk.nm) := Lib.hid (by rw [HS7.out]; exact congrArg _ (dropL_put HOK.out.2.1 (fun t ht e => by have h1 := HWAS.out; rw [List.any_eq_false] at h1; exact h1 t ht (by simpa using e))))
                go_wp2_with fail
                refine (rSameH a7 a n7 k c7 c ss7 ss _ HN7.out HX.out (by omega) (by omega) (fun s hs => by have := (HK7.out.1 s hs).2.2.1; omega) (fun s hs => by have := (HOK.out.1 s hs).2.2.1; omega) T7.out SS.out).mono ?_
                rintro e w204 ⟨rfl, hb⟩
                have BB := Lib.hid (BB.out.trans (hb.mono BB.out.size))
                have SS := Lib.hid (SS.out.below hb)
                have T5 := Lib.hid (T5.out.below hb)
                have T6 := Lib.hid (T6.out.below hb)
                have T7 := Lib.hid (T7.out.below hb)
                replace c0 := (hb.cell (cell_lt c0)).trans c0
                replace b6 := (hb.cell (cell_lt b6)).trans b6
                replace b9 := (hb.cell (cell_lt b9)).trans b9
                replace b12 := (hb.cell (cell_lt b12)).trans b12
                clear hb
                rw [decide_eq_true HSL7.out]
                go_wp2_with fail
                go_ret
                exact ⟨rfl, BB.out⟩
              · go_wp2_with fail
                go_ret
                exact ⟨rfl, BB.out⟩
        · have HNE : Hid (putE ss ⟨id, g, ⟨ex, srcs, fa, fc⟩⟩ ≠ 0) := Lib.hid (by rw [HER.out]; exact he)
          have he' : (er != 0) = true := by simpa using he
          rw [(putH_no HNE.out).1] at N5
          rw [(putH_no HNE.out).2] at R5
          have hr0 : r5 = 0 := by have := congrArg List.length R5.out; simp at this; rw [← HR5.out, this]; rfl
          subst hr0
          clear he
          go_wp2_with fail
          generalize w104.alloc (.cells #[.slice a5 n5 c5] 36) = wa at *
          refine (rSameH a5 a n5 n c5 c ss5 ss _ HN5.out HX.out (by omega) (by omega) (fun s hs => by have := (HK5.out.1 s hs).2.2.1; omega) (fun s hs => by have := (HOK.out.1 s hs).2.2.1; omega) T5.out SS.out).mono ?_
          rintro e w105 ⟨rfl, hb⟩
          have BB := Lib.hid (BB.out.trans (hb.mono BB.out.size))
          have SS := Lib.hid (SS.out.below hb)
          have SF := Lib.hid (SF.out.below hb)
          have T5 := Lib.hid (T5.out.below hb)
          replace c0 := (hb.cell (cell_lt c0)).trans c0
          replace s0 := (hb.cell (cell_lt s0)).trans s0
          replace s1 := (hb.cell (cell_lt s1)).trans s1
          replace s2 := (hb.cell (cell_lt s2)).trans s2
          replace s3 := (hb.cell (cell_lt s3)).trans s3
          replace b6 := (hb.cell (cell_lt b6)).trans b6
          clear hb
          rw [decide_eq_true N5.out]
          go_wp2_with fail
          go_ret
          exact ⟨rfl, BB.out⟩
      · have q3' : (100 : Int) < (srcs.length : Int) := by omega
        go_wp2_with fail
        go_ret
        exact ⟨rfl, BB.out⟩
    · rw [decide_eq_false q2]
      clear q2
      go_wp2_with fail
      go_ret
      exact ⟨rfl, BB.out⟩
  · rw [decide_eq_false q1]
    clear q1
    go_wp2_with fail
    go_ret
    exact ⟨rfl, BB.out⟩

set_option maxRecDepth 100000 in
theorem contract (H : Type) (enc : TypeId × Value → H) (W : World) (base : Nat) (args : Array Value) (ds gs : List (DataW H)) (before : List MemPlace)
    (hval : ∀ (j : Nat) t v, Try.f6.params[j]? = some t → args[j]? = some v → Value.okWide Try.prog W .any base t v)
    (hW : DataW.Whole enc Try.prog Try.f6.params.toList Rows.hostStaysSpec.vars false W args.toList ds gs before) (hsz : (DataW.weightsEach Try.prog (Try.f6.params.toList ++ Rows.hostStaysSpec.plain.varTypes Try.prog) (ds ++ gs)).all (· ≤ reachBytes) = true) :
    Calls Try.prog 6 args W fun e W' => ∃ v, e = .returned v ∧ Rows.hostStaysSpec.post enc Try.prog Try.f6 false true false false W args v W' := by
  have hW' := hW
  obtain ⟨p, q, hA0, hV, rfl, hfz, hnd⟩ := hW
  have hA : DataW.TrodAll enc Try.prog W 0 (fun _ => true) true Try.f6.params.toList args.toList ds p := hA0
  rw [Try.params6] at hA hval
  obtain ⟨v0, vs0, d0, ds0, p0, q0, hargs, rfl, rfl, h0, r0⟩ := trodAll_cons hA
  obtain ⟨v1, vs1, d1, ds1, p1, q1, rfl, rfl, rfl, h1, r1⟩ := trodAll_cons r0
  obtain ⟨rfl, rfl, rfl⟩ := trodAll_nil r1
  obtain rfl : args = #[v0, v1] := by cases args; simp_all
  obtain ⟨rfl, rfl⟩ := trodVars_none hV
  have k0 := h0
  have lt0 : ∀ x ∈ p0, x.block < W.heap.size := by obtain ⟨m, hm⟩ := k0; exact DataW.trod_lt m _ _ _ hm
  have k1 := h1
  have lt1 : ∀ x ∈ p1, x.block < W.heap.size := by obtain ⟨m, hm⟩ := k1; exact DataW.trod_lt m _ _ _ hm
  obtain ⟨a0, c0, s0, rfl, y0⟩ := open_host (hval 0 36 v0 rfl rfl) h0 (fun x hx => by simpa using List.all_eq_true.1 hsz _ (DataW.weights_mem_each (j := 0) rfl rfl x hx))
  obtain ⟨s1, rfl, y1⟩ := open_sock (hval 1 38 v1 rfl rfl) h1 (fun x hx => by simpa using List.all_eq_true.1 hsz _ (DataW.weights_mem_each (j := 1) rfl rfl x hx))
  clear hA0
  refine (walk W a0 c0 s0 y0 s1 y1).mono fun e W' ⟨he, bel⟩ => ?_
  subst he
  exact ⟨_, rfl, _, _, _, [], _, [], hW', trodAll_mk1 (shut_bool Try.underlying4 _), (trodAll_cons_mk (Below.trod laidOut (by kernel_rfl) (of_decide_eq_true (by kernel_rfl)) k0 bel lt0) (trodAll_cons_mk (Below.trod laidOut (by kernel_rfl) (of_decide_eq_true (by kernel_rfl)) k1 bel lt1) trodAll_mk0)), rfl, bel.frame _, fun h => by cases h⟩

set_option maxRecDepth 100000 in
theorem lifted (os : Os) (started : os.Started) (H : Type) (enc : TypeId × Value → H) :
    ReturnsInHanded {} Try.checked os 6 .any (Rows.hostStaysSpec.pre6 enc Try.prog Try.f6 Rows.hostStaysRow.domain false) (Rows.hostStaysSpec.post enc Try.prog Try.f6 false true false false) := by
  refine returnsInHanded_of_change_sized (C := Try.checked) own started (by kernel_rfl) Try.func6
    (ChangeSpec.witness6 (enc := enc) (C := Try.checked) false ⟨#[], #[(.agg #[.slice none 0 0]), (.agg #[.int .i64 0, .int .u32 0, .bool false, .slice none 0 0])], []⟩ 8 (by kernel_rfl) (by kernel_rfl) (by kernel_rfl) (by kernel_rfl)) ?_
  intro W base args ds gs before hval hW hcnd hsz _
  exact contract H enc W base args ds gs before hval hW hsz
theorem said : Rows.HostStaysSaid :=
  OpenClaim.holds_of_wide 6 Try.f6 rfl rfl rfl rfl rfl rfl rfl ⟨rfl, rfl, rfl, rfl, rfl⟩ rfl rfl rfl rfl rfl (by kernel_rfl) Try.func6 (by kernel_rfl)
    (of_decide_eq_true (by kernel_rfl)) (by unfold Func.isWrapper; first | (rw [if_pos (by decide +kernel)]; kernel_rfl) | (rw [if_neg (by decide +kernel)]; exact ⟨rfl, rfl⟩))
    (fun os started H enc _ => lifted os started H enc)
#print axioms said
end Go.Proofs.Ytmcbbccbonadjaa.hostStays
