/- The message of bytes, the document's own answer: queries of eight bytes. -/
import Derived.Test.YtmcnanoamgkljaaQ0
import Derived.Test.YtmcnanoamgkljaaQ1
import Derived.Test.YtmcnanoamgkljaaQ2
import Derived.Test.YtmcnanoamgkljaaQ3
import Derived.Test.YtmcnanoamgkljaaQ4
import Derived.Test.YtmcnanoamgkljaaQ5
import Derived.Test.YtmcnanoamgkljaaQ6
import Derived.Test.YtmcnanoamgkljaaQ7
import Derived.Test.YtmcnanoamgkljaaQ8
import Derived.Test.YtmcnanoamgkljaaQ9
namespace Go.Proofs.Ytmcnanoamgkljaa
set_option linter.unusedVariables false
open Go.RowKit

set_option maxRecDepth 100000 in
set_option maxHeartbeats 8000000 in
theorem rDec_q1 (b0 off n c : Nat) (xs : List Int) (w : World) (hx : xs.length = n) (hn : n ≤ 1000000) (hnc : n ≤ c) (h8 : ¬ n < 8) (hb : Bs w (some ⟨b0, off, none⟩) xs) (hs : ofs xs = 0) (hkk : xs.getD 0 0 = 17) (hn8 : n = 8) (hc0 : xs.getD 1 0 = 0) :
    Calls Try.prog 21 #[.slice (some ⟨b0, off, none⟩) n c] w fun e w' => ∃ sa sc ra rc, e = .returned (.tuple #[.agg #[.int .u8 (decM xs).kind, .int .i64 (decM xs).ver, .int .u8 (decM xs).code, .int .u32 (decM xs).grp, .bool (decM xs).quiet, .int .u8 (decM xs).rob, .int .u8 (decM xs).every, .slice sa (decM xs).srcs.length sc, .slice ra (decM xs).recs.length rc], .int .i64 (decE xs)]) ∧ Ms w' (decM xs) sa ra ∧ Below w.heap.size w w' := by
  have HAT := Lib.hid (show At w b0 off n xs from ⟨hx, hb.2, by
    intro j hj
    rcases hb.1 with rfl | ⟨b, o, e, hc⟩
    · simp at hx; omega
    · simp at e; obtain ⟨rfl, rfl⟩ := e; exact hc j (by omega)⟩)
  obtain ⟨k, hk⟩ : ∃ k, k = xs.getD 0 0 := ⟨_, rfl⟩
  obtain ⟨cd, hcd⟩ : ∃ cd, cd = xs.getD 1 0 := ⟨_, rfl⟩
  have HE : Hid (decE xs = if isKind k = false then 2 else endE (decN xs)) := Lib.hid (by unfold decE; rw [if_neg (by omega), if_neg (by rw [hs]; simp), ← hk])
  have e0 : w.cell? ⟨b0, off, none⟩ = some (.int .u8 k) := by rw [hk]; exact HAT.out.2.2 0 (by omega)
  have e1 : w.cell? ⟨b0, off + 1, none⟩ = some (.int .u8 cd) := by rw [hcd]; exact HAT.out.2.2 1 (by omega)
  have lb := cell_lt e0
  simp only at lb
  have HBG : Hid (mBegin xs = { m0 with kind := k, code := cd }) := Lib.hid (by rw [hk, hcd]; rfl)
  have HK := Lib.hid hk
  have HCD := Lib.hid hcd
  have HB := Lib.hid hb
  have HXS := Lib.hid hx
  have HS := Lib.hid hs
  have HI := Lib.hid (show IsB xs from hb.2)
  have HX := Lib.hid (MB.new w (.int .u8 0) (.int .i64 0) (.int .u8 0) (.int .u32 0) (.bool false) (.int .u8 0) (.int .u8 0) (.slice none 0 0) (.slice none 0 0))
  have B := Lib.hid (bel1 w (.cells #[.int .u8 0, .int .i64 0, .int .u8 0, .int .u32 0, .bool false, .int .u8 0, .int .u8 0, .slice none 0 0, .slice none 0 0] 27))
  have q7 : (0 : Int) < (n : Int) := by omega
  have q8 : (1 : Int) < (n : Int) := by omega
  have q9 : 0 < n := by omega
  have q10 : 1 < n := by omega
  have q11 : ¬ ((n : Int) < 8) := by omega
  have n8 : 8 ≤ n := by omega
  obtain rfl : k = 17 := hk.trans hkk
  have HKI : Hid (isKind 17 = true) := Lib.hid rfl
  obtain rfl : cd = 0 := hcd.trans hc0
  have HN8 := Lib.hid hn8
  have HC0 := Lib.hid hc0
  clear hn8 hc0
  clear hk hcd hb hx hs h8
  go_enter Try.func21, Try.ntmps21
  go_upto_region 5 with (go_at_call 40; refine (rOf2 (some ⟨b0, off, none⟩) n c xs _ HXS.out hn (bs_below HB.out B.out)).mono ?_; rintro e w1 ⟨rfl, hw1⟩; rw [HS.out]; have X1 : Hid (MB w1 w.heap.size (.int .u8 0) (.int .i64 0) (.int .u8 0) (.int .u32 0) (.bool false) (.int .u8 0) (.int .u8 0) (.slice none 0 0) (.slice none 0 0)) := Lib.hid (by rw [← hw1]; exact HX.out); have B1 : Hid (Below w.heap.size w w1) := Lib.hid (by rw [← hw1]; exact B.out); have S1 : Hid (w.heap.size < w1.heap.size) := Lib.hid X1.out.lt; have g0 := (B1.out.cell (p := ⟨b0, off, none⟩) lb).trans e0; have g1 := (B1.out.cell (p := ⟨b0, off + 1, none⟩) lb).trans e1; have lb1 : b0 < w1.heap.size := (by have := S1.out; omega); subst hw1)
  go_cut [4] (fun s4 wx => ∃ Y, s4 = .pointer (some ⟨Y, 0, none⟩) ∧ w.heap.size < Y ∧ MB wx Y (.int .u8 17) (.int .i64 0) (.int .u8 0) (.int .u32 0) (.bool false) (.int .u8 0) (.int .u8 0) (.slice none 0 0) (.slice none 0 0) ∧ MB wx w.heap.size (.int .u8 0) (.int .i64 0) (.int .u8 0) (.int .u32 0) (.bool false) (.int .u8 0) (.int .u8 0) (.slice none 0 0) (.slice none 0 0) ∧ Below w.heap.size w wx)
  case first =>
    have S1 : Hid (w.heap.size < (w.alloc (.cells #[.int .u8 0, .int .i64 0, .int .u8 0, .int .u32 0, .bool false, .int .u8 0, .int .u8 0, .slice none 0 0, .slice none 0 0] 27)).heap.size) := Lib.hid HX.out.lt
    go_region
    all_goals
      go_wp2_with fail
      go_meet
      exact ⟨w.heap.size + 1, rfl, by omega, by have := MB.new (w.alloc (.cells #[.int .u8 0, .int .i64 0, .int .u8 0, .int .u32 0, .bool false, .int .u8 0, .int .u8 0, .slice none 0 0, .slice none 0 0] 27)) (.int .u8 17) (.int .i64 0) (.int .u8 0) (.int .u32 0) (.bool false) (.int .u8 0) (.int .u8 0) (.slice none 0 0) (.slice none 0 0); rw [show (w.alloc (.cells #[.int .u8 0, .int .i64 0, .int .u8 0, .int .u32 0, .bool false, .int .u8 0, .int .u8 0, .slice none 0 0, .slice none 0 0] 27)).heap.size = w.heap.size + 1 by simp] at this; exact this, HX.out.keep (Below.heap_alloc _ _ _ S1.out), by first | exact B.out.alloc B.out.size _ | exact (B.out.alloc B.out.size _).drew⟩
  case rest =>
    obtain ⟨Y, rfl, hY, hmy, hmx, hbel⟩ := hcut
    have HY := Lib.hid hY
    have HMY := Lib.hid hmy
    have HMX := Lib.hid hmx
    have HBE := Lib.hid hbel
    have hbY : b0 ≠ Y := by omega
    have hXY : w.heap.size ≠ Y := by omega
    have g0 := (HBE.out.cell (p := ⟨b0, off, none⟩) lb).trans e0
    have g1 := (HBE.out.cell (p := ⟨b0, off + 1, none⟩) lb).trans e1
    clear hmy hmx hbel
    obtain ⟨gv, hg⟩ : ∃ gv, gv = ofv ((xs.drop 4).take 4) := ⟨_, rfl⟩
    have HG := Lib.hid hg
    have gb : 0 ≤ gv ∧ gv ≤ 4294967295 := by rw [hg]; exact ofv_at HI.out (by have := HXS.out; omega)
    have HGB := Lib.hid gb
    clear hg gb
    have DN : Hid (decN xs = ⟨⟨xs.drop 8, false⟩, false, ⟨17, 1, 0, 0, false, 0, 0, [], []⟩⟩) := Lib.hid (by rw [decN_q1 (HXS.out.trans HN8.out) (by rw [← HK.out]) (by rw [← HCD.out]), HBG.out]; rfl)
    have OK : Hid ((⟨17, 1, 0, 0, false, 0, 0, [], []⟩ : Msg).ok) := Lib.hid (by simp [Msg.ok])
    have hne8 : ((n : Int) == 8) = true := by rw [beq_iff_eq]; have := HN8.out; omega
    have hgt8 : ¬ ((n : Int) > 8) := by have := HN8.out; omega
    go_wp2_with fail
    refine (rAt4 b0 off n c xs _ (HAT.out.below HBE.out) hn hnc n8).mono ?_
    rintro e w5 ⟨rfl, hb5⟩
    rw [← HG.out]
    have MY5 := HMY.out.below hb5 HMY.out.lt
    have MX5 := HMX.out.below hb5 HMX.out.lt
    have BE5 := HBE.out.trans (hb5.mono HBE.out.size)
    obtain ⟨-, y1, -, y3, -, -, -, -, -, yf⟩ := MY5.cells
    have yf3 := yf 3
    have yf1 := yf 1
    obtain ⟨W6, hW6⟩ : ∃ W6, (w5.setCell ⟨Y, 3, none⟩ (.int .u32 gv)).setCell ⟨Y, 1, none⟩ (.int .i64 2) = W6 := ⟨_, rfl⟩
    have HW6 := Lib.hid hW6
    have my6 := (MY5.set3 (.int .u32 gv)).set1 (.int .i64 2)
    have mx6 := (MX5.keep (w' := w5.setCell ⟨Y, 3, none⟩ (.int .u32 gv)) (set_other hXY)).keep (w' := (w5.setCell ⟨Y, 3, none⟩ (.int .u32 gv)).setCell ⟨Y, 1, none⟩ (.int .i64 2)) (set_other hXY)
    have be6 := bel_set (bel_set BE5 (by omega : w.heap.size ≤ Y) (.int .u32 gv) (j := 3)) (by omega : w.heap.size ≤ Y) (.int .i64 2) (j := 1)
    rw [hW6] at my6 mx6 be6
    have MY6 := Lib.hid my6
    have MX6 := Lib.hid mx6
    have BE6 := Lib.hid be6
    have g1 := (BE6.out.cell (p := ⟨b0, off + 1, none⟩) lb).trans e1
    clear MY5 MX5 BE5 yf hb5 my6 mx6 be6 hW6
    go_upto_region 24 with fail
    rw [HW6.out]
    clear y3 yf3 y1 yf1 HW6 g0
    obtain ⟨-, y1, -, y3, -, -, -, -, -, yf⟩ := MY6.out.cells
    have yf3 := yf 3
    have yf1 := yf 1
    obtain ⟨W7, hW7⟩ : ∃ W7, (W6.setCell ⟨Y, 1, none⟩ (.int .i64 1)).setCell ⟨Y, 3, none⟩ (.int .u32 0) = W7 := ⟨_, rfl⟩
    have HW7 := Lib.hid hW7
    have my7 := (MY6.out.set1 (.int .i64 1)).set3 (.int .u32 0)
    have mx7 := (MX6.out.keep (w' := W6.setCell ⟨Y, 1, none⟩ (.int .i64 1)) (set_other hXY)).keep (w' := (W6.setCell ⟨Y, 1, none⟩ (.int .i64 1)).setCell ⟨Y, 3, none⟩ (.int .u32 0)) (set_other hXY)
    have be7 := bel_set (bel_set BE6.out (by omega : w.heap.size ≤ Y) (.int .i64 1) (j := 1)) (by omega : w.heap.size ≤ Y) (.int .u32 0) (j := 3)
    rw [hW7] at my7 mx7 be7
    have MY7' := Lib.hid my7
    have MX7' := Lib.hid mx7
    have BE7' := Lib.hid be7
    have UP7 : Hid (MsUp w.heap.size W7 ⟨17, 1, 0, 0, false, 0, 0, [], []⟩ none none) := Lib.hid (up_nil OK.out rfl rfl)
    clear yf my7 mx7 be7 hW7
    go_upto_region 27 with fail
    rw [HW7.out]
    clear y1 y3 yf1 yf3 HW7 g1
    go_upto_region 39 with fail
    have EE : Hid (decE xs = endE (decN xs)) := Lib.hid (by rw [HE.out, if_neg (by rw [HKI.out]; simp)])
    rw [DN.out] at EE
    obtain ⟨y, hy⟩ : ∃ y, y = right ⟨17, 1, 0, 0, false, 0, 0, [], []⟩ := ⟨_, rfl⟩
    have HRT := Lib.hid hy
    clear hy
    obtain ⟨y0, y1, y2, y3, y4, y5, y6, y7, y8, yf⟩ := MY7'.out.cells
    have yf0 := yf 0
    have yf1 := yf 1
    have yf2 := yf 2
    have yf3 := yf 3
    have yf4 := yf 4
    have yf5 := yf 5
    have yf6 := yf 6
    have yf7 := yf 7
    have yf8 := yf 8
    clear yf
    by_cases hEn : 8 = n
    case neg =>
      exact absurd HN8.out.symm hEn
    have hne : ((8 : Int) != (n : Int)) = false := by rw [bne_eq_false_iff_eq]; omega
    have HEN := Lib.hid hEn
    clear hEn
    cases y with
    | false =>
      have ER := Lib.hid (end_not (n := n) EE.out rfl HRT.out.symm)
      go_wp2_with fail
      refine (rRight ⟨17, 1, 0, 0, false, 0, 0, [], []⟩ none none 0 0 _ UP7.out.self).mono ?_
      rintro e7 w7 ⟨rfl, hb7⟩
      rw [← HRT.out]
      have MX7 := Lib.hid (MX7'.out.below hb7 MX7'.out.lt)
      have MY7 := Lib.hid (MY7'.out.below hb7 MY7'.out.lt)
      have BE7 := Lib.hid (BE7'.out.trans (hb7.mono BE7'.out.size))
      have HB7 := Lib.hid hb7
      obtain ⟨z0, z1, z2, z3, z4, z5, z6, z7, z8, zf⟩ := MX7.out.cells
      have zf0 := zf 0
      have zf1 := zf 1
      have zf2 := zf 2
      have zf3 := zf 3
      have zf4 := zf 4
      have zf5 := zf 5
      have zf6 := zf 6
      have zf7 := zf 7
      have zf8 := zf 8
      clear zf
      obtain ⟨t0, t1, t2, t3, t4, t5, t6, t7, t8, -⟩ := MY7.out.cells
      clear hb7
      go_wp2_with fail
      refine ret_cell2 rfl rfl rfl ((MX7.out.store (.int .u8 0) (.int .i64 0) (.int .u8 0) (.int .u32 0) (.bool false) (.int .u8 0) (.int .u8 0) (.slice none 0 0) (.slice none 0 0)).load) ?_
      refine ⟨none, 0, none, 0, ?_, ?_, ?_⟩
      · rw [ER.out.1, ER.out.2]; rfl
      · rw [ER.out.2]; exact ms0 _
      · exact bel_store BE7.out (Nat.le_refl _) _ _ _ _ _ _ _ _ _
    | true =>
      have ER : Hid (decE xs = 0 ∧ decM xs = ⟨17, 1, 0, 0, false, 0, 0, [], []⟩) := Lib.hid (end_ok HXS.out EE.out DN.out (by rw [HEN.out]) rfl HRT.out.symm)
      go_wp2_with fail
      refine (rRight ⟨17, 1, 0, 0, false, 0, 0, [], []⟩ none none 0 0 _ UP7.out.self).mono ?_
      rintro e7 w7 ⟨rfl, hb7⟩
      rw [← HRT.out]
      have MX7 := Lib.hid (MX7'.out.below hb7 MX7'.out.lt)
      have MY7 := Lib.hid (MY7'.out.below hb7 MY7'.out.lt)
      have BE7 := Lib.hid (BE7'.out.trans (hb7.mono BE7'.out.size))
      have HB7 := Lib.hid hb7
      obtain ⟨z0, z1, z2, z3, z4, z5, z6, z7, z8, zf⟩ := MX7.out.cells
      have zf0 := zf 0
      have zf1 := zf 1
      have zf2 := zf 2
      have zf3 := zf 3
      have zf4 := zf 4
      have zf5 := zf 5
      have zf6 := zf 6
      have zf7 := zf 7
      have zf8 := zf 8
      clear zf
      obtain ⟨t0, t1, t2, t3, t4, t5, t6, t7, t8, -⟩ := MY7.out.cells
      clear hb7
      go_wp2_with fail
      refine ret_cell2 rfl rfl rfl ((MX7.out.store (.int .u8 17) (.int .i64 1) (.int .u8 0) (.int .u32 0) (.bool false) (.int .u8 0) (.int .u8 0) (.slice none 0 0) (.slice none 0 0)).load) ?_
      refine ⟨none, 0, none, 0, ?_, ?_, ?_⟩
      · rw [ER.out.1, ER.out.2]; rfl
      · rw [ER.out.2]
        exact UP7.out _ (by rw [set_size, set_size, set_size, set_size, set_size, set_size, set_size, set_size, set_size]; exact HB7.out.size) (fun q hq hq2 => (store_other (by omega) _ _ _ _ _ _ _ _ _).trans (HB7.out.block q hq2))
      · exact bel_store BE7.out (Nat.le_refl _) _ _ _ _ _ _ _ _ _

set_option maxRecDepth 100000 in
set_option maxHeartbeats 8000000 in
theorem rDec_q2 (b0 off n c : Nat) (xs : List Int) (w : World) (hx : xs.length = n) (hn : n ≤ 1000000) (hnc : n ≤ c) (h8 : ¬ n < 8) (hb : Bs w (some ⟨b0, off, none⟩) xs) (hs : ofs xs = 0) (hkk : xs.getD 0 0 = 17) (hn8 : n = 8) (hc0 : xs.getD 1 0 ≠ 0) :
    Calls Try.prog 21 #[.slice (some ⟨b0, off, none⟩) n c] w fun e w' => ∃ sa sc ra rc, e = .returned (.tuple #[.agg #[.int .u8 (decM xs).kind, .int .i64 (decM xs).ver, .int .u8 (decM xs).code, .int .u32 (decM xs).grp, .bool (decM xs).quiet, .int .u8 (decM xs).rob, .int .u8 (decM xs).every, .slice sa (decM xs).srcs.length sc, .slice ra (decM xs).recs.length rc], .int .i64 (decE xs)]) ∧ Ms w' (decM xs) sa ra ∧ Below w.heap.size w w' := by
  have HAT := Lib.hid (show At w b0 off n xs from ⟨hx, hb.2, by
    intro j hj
    rcases hb.1 with rfl | ⟨b, o, e, hc⟩
    · simp at hx; omega
    · simp at e; obtain ⟨rfl, rfl⟩ := e; exact hc j (by omega)⟩)
  obtain ⟨k, hk⟩ : ∃ k, k = xs.getD 0 0 := ⟨_, rfl⟩
  obtain ⟨cd, hcd⟩ : ∃ cd, cd = xs.getD 1 0 := ⟨_, rfl⟩
  have HE : Hid (decE xs = if isKind k = false then 2 else endE (decN xs)) := Lib.hid (by unfold decE; rw [if_neg (by omega), if_neg (by rw [hs]; simp), ← hk])
  have e0 : w.cell? ⟨b0, off, none⟩ = some (.int .u8 k) := by rw [hk]; exact HAT.out.2.2 0 (by omega)
  have e1 : w.cell? ⟨b0, off + 1, none⟩ = some (.int .u8 cd) := by rw [hcd]; exact HAT.out.2.2 1 (by omega)
  have lb := cell_lt e0
  simp only at lb
  have HBG : Hid (mBegin xs = { m0 with kind := k, code := cd }) := Lib.hid (by rw [hk, hcd]; rfl)
  have HK := Lib.hid hk
  have HCD := Lib.hid hcd
  have HB := Lib.hid hb
  have HXS := Lib.hid hx
  have HS := Lib.hid hs
  have HI := Lib.hid (show IsB xs from hb.2)
  have HX := Lib.hid (MB.new w (.int .u8 0) (.int .i64 0) (.int .u8 0) (.int .u32 0) (.bool false) (.int .u8 0) (.int .u8 0) (.slice none 0 0) (.slice none 0 0))
  have B := Lib.hid (bel1 w (.cells #[.int .u8 0, .int .i64 0, .int .u8 0, .int .u32 0, .bool false, .int .u8 0, .int .u8 0, .slice none 0 0, .slice none 0 0] 27))
  have q7 : (0 : Int) < (n : Int) := by omega
  have q8 : (1 : Int) < (n : Int) := by omega
  have q9 : 0 < n := by omega
  have q10 : 1 < n := by omega
  have q11 : ¬ ((n : Int) < 8) := by omega
  have n8 : 8 ≤ n := by omega
  obtain rfl : k = 17 := hk.trans hkk
  have HKI : Hid (isKind 17 = true) := Lib.hid rfl
  have HC0 : Hid (cd ≠ 0) := Lib.hid (by rw [hcd]; exact hc0)
  have HC1 := Lib.hid hc0
  have HN8 := Lib.hid hn8
  clear hn8 hc0
  clear hk hcd hb hx hs h8
  go_enter Try.func21, Try.ntmps21
  go_upto_region 5 with (go_at_call 40; refine (rOf2 (some ⟨b0, off, none⟩) n c xs _ HXS.out hn (bs_below HB.out B.out)).mono ?_; rintro e w1 ⟨rfl, hw1⟩; rw [HS.out]; have X1 : Hid (MB w1 w.heap.size (.int .u8 0) (.int .i64 0) (.int .u8 0) (.int .u32 0) (.bool false) (.int .u8 0) (.int .u8 0) (.slice none 0 0) (.slice none 0 0)) := Lib.hid (by rw [← hw1]; exact HX.out); have B1 : Hid (Below w.heap.size w w1) := Lib.hid (by rw [← hw1]; exact B.out); have S1 : Hid (w.heap.size < w1.heap.size) := Lib.hid X1.out.lt; have g0 := (B1.out.cell (p := ⟨b0, off, none⟩) lb).trans e0; have g1 := (B1.out.cell (p := ⟨b0, off + 1, none⟩) lb).trans e1; have lb1 : b0 < w1.heap.size := (by have := S1.out; omega); subst hw1)
  go_cut [4] (fun s4 wx => ∃ Y, s4 = .pointer (some ⟨Y, 0, none⟩) ∧ w.heap.size < Y ∧ MB wx Y (.int .u8 17) (.int .i64 0) (.int .u8 cd) (.int .u32 0) (.bool false) (.int .u8 0) (.int .u8 0) (.slice none 0 0) (.slice none 0 0) ∧ MB wx w.heap.size (.int .u8 0) (.int .i64 0) (.int .u8 0) (.int .u32 0) (.bool false) (.int .u8 0) (.int .u8 0) (.slice none 0 0) (.slice none 0 0) ∧ Below w.heap.size w wx)
  case first =>
    have S1 : Hid (w.heap.size < (w.alloc (.cells #[.int .u8 0, .int .i64 0, .int .u8 0, .int .u32 0, .bool false, .int .u8 0, .int .u8 0, .slice none 0 0, .slice none 0 0] 27)).heap.size) := Lib.hid HX.out.lt
    go_region
    all_goals
      go_wp2_with fail
      go_meet
      exact ⟨w.heap.size + 1, rfl, by omega, by have := MB.new (w.alloc (.cells #[.int .u8 0, .int .i64 0, .int .u8 0, .int .u32 0, .bool false, .int .u8 0, .int .u8 0, .slice none 0 0, .slice none 0 0] 27)) (.int .u8 17) (.int .i64 0) (.int .u8 cd) (.int .u32 0) (.bool false) (.int .u8 0) (.int .u8 0) (.slice none 0 0) (.slice none 0 0); rw [show (w.alloc (.cells #[.int .u8 0, .int .i64 0, .int .u8 0, .int .u32 0, .bool false, .int .u8 0, .int .u8 0, .slice none 0 0, .slice none 0 0] 27)).heap.size = w.heap.size + 1 by simp] at this; exact this, HX.out.keep (Below.heap_alloc _ _ _ S1.out), by first | exact B.out.alloc B.out.size _ | exact (B.out.alloc B.out.size _).drew⟩
  case rest =>
    obtain ⟨Y, rfl, hY, hmy, hmx, hbel⟩ := hcut
    have HY := Lib.hid hY
    have HMY := Lib.hid hmy
    have HMX := Lib.hid hmx
    have HBE := Lib.hid hbel
    have hbY : b0 ≠ Y := by omega
    have hXY : w.heap.size ≠ Y := by omega
    have g0 := (HBE.out.cell (p := ⟨b0, off, none⟩) lb).trans e0
    have g1 := (HBE.out.cell (p := ⟨b0, off + 1, none⟩) lb).trans e1
    clear hmy hmx hbel
    obtain ⟨gv, hg⟩ : ∃ gv, gv = ofv ((xs.drop 4).take 4) := ⟨_, rfl⟩
    have HG := Lib.hid hg
    have gb : 0 ≤ gv ∧ gv ≤ 4294967295 := by rw [hg]; exact ofv_at HI.out (by have := HXS.out; omega)
    have HGB := Lib.hid gb
    clear hg gb
    have DN : Hid (decN xs = ⟨⟨xs.drop 8, false⟩, false, ⟨17, 2, cd, gv, false, 0, 0, [], []⟩⟩) := Lib.hid (by rw [decN_q2 (HXS.out.trans HN8.out) (by rw [← HK.out]) HC1.out, HBG.out, ← HG.out]; rfl)
    have OK : Hid ((⟨17, 2, cd, gv, false, 0, 0, [], []⟩ : Msg).ok) := Lib.hid (by have h1 := byte_at HI.out 1; rw [← HCD.out] at h1; have h2 := HGB.out; simp [Msg.ok]; omega)
    have cdb : (cd == 0) = false := beq_eq_false_iff_ne.2 HC0.out
    have hne8 : ((n : Int) == 8) = true := by rw [beq_iff_eq]; have := HN8.out; omega
    have hgt8 : ¬ ((n : Int) > 8) := by have := HN8.out; omega
    go_wp2_with fail
    refine (rAt4 b0 off n c xs _ (HAT.out.below HBE.out) hn hnc n8).mono ?_
    rintro e w5 ⟨rfl, hb5⟩
    rw [← HG.out]
    have MY5 := HMY.out.below hb5 HMY.out.lt
    have MX5 := HMX.out.below hb5 HMX.out.lt
    have BE5 := HBE.out.trans (hb5.mono HBE.out.size)
    obtain ⟨-, y1, -, y3, -, -, -, -, -, yf⟩ := MY5.cells
    have yf3 := yf 3
    have yf1 := yf 1
    obtain ⟨W6, hW6⟩ : ∃ W6, (w5.setCell ⟨Y, 3, none⟩ (.int .u32 gv)).setCell ⟨Y, 1, none⟩ (.int .i64 2) = W6 := ⟨_, rfl⟩
    have HW6 := Lib.hid hW6
    have my6 := (MY5.set3 (.int .u32 gv)).set1 (.int .i64 2)
    have mx6 := (MX5.keep (w' := w5.setCell ⟨Y, 3, none⟩ (.int .u32 gv)) (set_other hXY)).keep (w' := (w5.setCell ⟨Y, 3, none⟩ (.int .u32 gv)).setCell ⟨Y, 1, none⟩ (.int .i64 2)) (set_other hXY)
    have be6 := bel_set (bel_set BE5 (by omega : w.heap.size ≤ Y) (.int .u32 gv) (j := 3)) (by omega : w.heap.size ≤ Y) (.int .i64 2) (j := 1)
    rw [hW6] at my6 mx6 be6
    have MY6 := Lib.hid my6
    have MX6 := Lib.hid mx6
    have BE6 := Lib.hid be6
    have g1 := (BE6.out.cell (p := ⟨b0, off + 1, none⟩) lb).trans e1
    clear MY5 MX5 BE5 yf hb5 my6 mx6 be6 hW6
    go_upto_region 24 with fail
    rw [HW6.out]
    clear y3 yf3 y1 yf1 HW6 g0
    have UP6 : Hid (MsUp w.heap.size W6 ⟨17, 2, cd, gv, false, 0, 0, [], []⟩ none none) := Lib.hid (up_nil OK.out rfl rfl)
    go_upto_region 39 with fail
    clear g1
    have EE : Hid (decE xs = endE (decN xs)) := Lib.hid (by rw [HE.out, if_neg (by rw [HKI.out]; simp)])
    rw [DN.out] at EE
    obtain ⟨y, hy⟩ : ∃ y, y = right ⟨17, 2, cd, gv, false, 0, 0, [], []⟩ := ⟨_, rfl⟩
    have HRT := Lib.hid hy
    clear hy
    obtain ⟨y0, y1, y2, y3, y4, y5, y6, y7, y8, yf⟩ := MY6.out.cells
    have yf0 := yf 0
    have yf1 := yf 1
    have yf2 := yf 2
    have yf3 := yf 3
    have yf4 := yf 4
    have yf5 := yf 5
    have yf6 := yf 6
    have yf7 := yf 7
    have yf8 := yf 8
    clear yf
    by_cases hEn : 8 = n
    case neg =>
      exact absurd HN8.out.symm hEn
    have hne : ((8 : Int) != (n : Int)) = false := by rw [bne_eq_false_iff_eq]; omega
    have HEN := Lib.hid hEn
    clear hEn
    cases y with
    | false =>
      have ER := Lib.hid (end_not (n := n) EE.out rfl HRT.out.symm)
      go_wp2_with fail
      refine (rRight ⟨17, 2, cd, gv, false, 0, 0, [], []⟩ none none 0 0 _ UP6.out.self).mono ?_
      rintro e7 w7 ⟨rfl, hb7⟩
      rw [← HRT.out]
      have MX7 := Lib.hid (MX6.out.below hb7 MX6.out.lt)
      have MY7 := Lib.hid (MY6.out.below hb7 MY6.out.lt)
      have BE7 := Lib.hid (BE6.out.trans (hb7.mono BE6.out.size))
      have HB7 := Lib.hid hb7
      obtain ⟨z0, z1, z2, z3, z4, z5, z6, z7, z8, zf⟩ := MX7.out.cells
      have zf0 := zf 0
      have zf1 := zf 1
      have zf2 := zf 2
      have zf3 := zf 3
      have zf4 := zf 4
      have zf5 := zf 5
      have zf6 := zf 6
      have zf7 := zf 7
      have zf8 := zf 8
      clear zf
      obtain ⟨t0, t1, t2, t3, t4, t5, t6, t7, t8, -⟩ := MY7.out.cells
      clear hb7
      go_wp2_with fail
      refine ret_cell2 rfl rfl rfl ((MX7.out.store (.int .u8 0) (.int .i64 0) (.int .u8 0) (.int .u32 0) (.bool false) (.int .u8 0) (.int .u8 0) (.slice none 0 0) (.slice none 0 0)).load) ?_
      refine ⟨none, 0, none, 0, ?_, ?_, ?_⟩
      · rw [ER.out.1, ER.out.2]; rfl
      · rw [ER.out.2]; exact ms0 _
      · exact bel_store BE7.out (Nat.le_refl _) _ _ _ _ _ _ _ _ _
    | true =>
      have ER : Hid (decE xs = 0 ∧ decM xs = ⟨17, 2, cd, gv, false, 0, 0, [], []⟩) := Lib.hid (end_ok HXS.out EE.out DN.out (by rw [HEN.out]) rfl HRT.out.symm)
      go_wp2_with fail
      refine (rRight ⟨17, 2, cd, gv, false, 0, 0, [], []⟩ none none 0 0 _ UP6.out.self).mono ?_
      rintro e7 w7 ⟨rfl, hb7⟩
      rw [← HRT.out]
      have MX7 := Lib.hid (MX6.out.below hb7 MX6.out.lt)
      have MY7 := Lib.hid (MY6.out.below hb7 MY6.out.lt)
      have BE7 := Lib.hid (BE6.out.trans (hb7.mono BE6.out.size))
      have HB7 := Lib.hid hb7
      obtain ⟨z0, z1, z2, z3, z4, z5, z6, z7, z8, zf⟩ := MX7.out.cells
      have zf0 := zf 0
      have zf1 := zf 1
      have zf2 := zf 2
      have zf3 := zf 3
      have zf4 := zf 4
      have zf5 := zf 5
      have zf6 := zf 6
      have zf7 := zf 7
      have zf8 := zf 8
      clear zf
      obtain ⟨t0, t1, t2, t3, t4, t5, t6, t7, t8, -⟩ := MY7.out.cells
      clear hb7
      go_wp2_with fail
      refine ret_cell2 rfl rfl rfl ((MX7.out.store (.int .u8 17) (.int .i64 2) (.int .u8 cd) (.int .u32 gv) (.bool false) (.int .u8 0) (.int .u8 0) (.slice none 0 0) (.slice none 0 0)).load) ?_
      refine ⟨none, 0, none, 0, ?_, ?_, ?_⟩
      · rw [ER.out.1, ER.out.2]; rfl
      · rw [ER.out.2]
        exact UP6.out _ (by rw [set_size, set_size, set_size, set_size, set_size, set_size, set_size, set_size, set_size]; exact HB7.out.size) (fun q hq hq2 => (store_other (by omega) _ _ _ _ _ _ _ _ _).trans (HB7.out.block q hq2))
      · exact bel_store BE7.out (Nat.le_refl _) _ _ _ _ _ _ _ _ _
end Go.Proofs.Ytmcnanoamgkljaa
/- The message of bytes, the document's own answer: queries of version 3. -/
namespace Go.Proofs.Ytmcnanoamgkljaa
set_option linter.unusedVariables false
open Go.RowKit

set_option maxRecDepth 100000 in
set_option maxHeartbeats 8000000 in
theorem rDec_q3s (b0 off n c : Nat) (xs : List Int) (w : World) (hx : xs.length = n) (hn : n ≤ 1000000) (hnc : n ≤ c) (h8 : ¬ n < 8) (hb : Bs w (some ⟨b0, off, none⟩) xs) (hs : ofs xs = 0) (hkk : xs.getD 0 0 = 17) (hn8 : 8 < n) (hsh : n < 12 ∨ n < 12 + 4 * numV xs 10) :
    Calls Try.prog 21 #[.slice (some ⟨b0, off, none⟩) n c] w fun e w' => ∃ sa sc ra rc, e = .returned (.tuple #[.agg #[.int .u8 (decM xs).kind, .int .i64 (decM xs).ver, .int .u8 (decM xs).code, .int .u32 (decM xs).grp, .bool (decM xs).quiet, .int .u8 (decM xs).rob, .int .u8 (decM xs).every, .slice sa (decM xs).srcs.length sc, .slice ra (decM xs).recs.length rc], .int .i64 (decE xs)]) ∧ Ms w' (decM xs) sa ra ∧ Below w.heap.size w w' := by
  have HAT := Lib.hid (show At w b0 off n xs from ⟨hx, hb.2, by
    intro j hj
    rcases hb.1 with rfl | ⟨b, o, e, hc⟩
    · simp at hx; omega
    · simp at e; obtain ⟨rfl, rfl⟩ := e; exact hc j (by omega)⟩)
  obtain ⟨k, hk⟩ : ∃ k, k = xs.getD 0 0 := ⟨_, rfl⟩
  obtain ⟨cd, hcd⟩ : ∃ cd, cd = xs.getD 1 0 := ⟨_, rfl⟩
  have HE : Hid (decE xs = if isKind k = false then 2 else endE (decN xs)) := Lib.hid (by unfold decE; rw [if_neg (by omega), if_neg (by rw [hs]; simp), ← hk])
  have e0 : w.cell? ⟨b0, off, none⟩ = some (.int .u8 k) := by rw [hk]; exact HAT.out.2.2 0 (by omega)
  have e1 : w.cell? ⟨b0, off + 1, none⟩ = some (.int .u8 cd) := by rw [hcd]; exact HAT.out.2.2 1 (by omega)
  have lb := cell_lt e0
  simp only at lb
  have HBG : Hid (mBegin xs = { m0 with kind := k, code := cd }) := Lib.hid (by rw [hk, hcd]; rfl)
  have HK := Lib.hid hk
  have HCD := Lib.hid hcd
  have HB := Lib.hid hb
  have HXS := Lib.hid hx
  have HS := Lib.hid hs
  have HI := Lib.hid (show IsB xs from hb.2)
  have HX := Lib.hid (MB.new w (.int .u8 0) (.int .i64 0) (.int .u8 0) (.int .u32 0) (.bool false) (.int .u8 0) (.int .u8 0) (.slice none 0 0) (.slice none 0 0))
  have B := Lib.hid (bel1 w (.cells #[.int .u8 0, .int .i64 0, .int .u8 0, .int .u32 0, .bool false, .int .u8 0, .int .u8 0, .slice none 0 0, .slice none 0 0] 27))
  have q7 : (0 : Int) < (n : Int) := by omega
  have q8 : (1 : Int) < (n : Int) := by omega
  have q9 : 0 < n := by omega
  have q10 : 1 < n := by omega
  have q11 : ¬ ((n : Int) < 8) := by omega
  have n8 : 8 ≤ n := by omega
  obtain rfl : k = 17 := hk.trans hkk
  have HKI : Hid (isKind 17 = true) := Lib.hid rfl
  clear hk hcd hb hx hs h8
  go_enter Try.func21, Try.ntmps21
  go_upto_region 5 with (go_at_call 40; refine (rOf2 (some ⟨b0, off, none⟩) n c xs _ HXS.out hn (bs_below HB.out B.out)).mono ?_; rintro e w1 ⟨rfl, hw1⟩; rw [HS.out]; have X1 : Hid (MB w1 w.heap.size (.int .u8 0) (.int .i64 0) (.int .u8 0) (.int .u32 0) (.bool false) (.int .u8 0) (.int .u8 0) (.slice none 0 0) (.slice none 0 0)) := Lib.hid (by rw [← hw1]; exact HX.out); have B1 : Hid (Below w.heap.size w w1) := Lib.hid (by rw [← hw1]; exact B.out); have S1 : Hid (w.heap.size < w1.heap.size) := Lib.hid X1.out.lt; have g0 := (B1.out.cell (p := ⟨b0, off, none⟩) lb).trans e0; have g1 := (B1.out.cell (p := ⟨b0, off + 1, none⟩) lb).trans e1; have lb1 : b0 < w1.heap.size := (by have := S1.out; omega); subst hw1)
  go_cut [4] (fun s4 wx => ∃ Y, s4 = .pointer (some ⟨Y, 0, none⟩) ∧ w.heap.size < Y ∧ MB wx Y (.int .u8 17) (.int .i64 0) (.int .u8 cd) (.int .u32 0) (.bool false) (.int .u8 0) (.int .u8 0) (.slice none 0 0) (.slice none 0 0) ∧ MB wx w.heap.size (.int .u8 0) (.int .i64 0) (.int .u8 0) (.int .u32 0) (.bool false) (.int .u8 0) (.int .u8 0) (.slice none 0 0) (.slice none 0 0) ∧ Below w.heap.size w wx)
  case first =>
    have S1 : Hid (w.heap.size < (w.alloc (.cells #[.int .u8 0, .int .i64 0, .int .u8 0, .int .u32 0, .bool false, .int .u8 0, .int .u8 0, .slice none 0 0, .slice none 0 0] 27)).heap.size) := Lib.hid HX.out.lt
    go_region
    all_goals
      go_wp2_with fail
      go_meet
      exact ⟨w.heap.size + 1, rfl, by omega, by have := MB.new (w.alloc (.cells #[.int .u8 0, .int .i64 0, .int .u8 0, .int .u32 0, .bool false, .int .u8 0, .int .u8 0, .slice none 0 0, .slice none 0 0] 27)) (.int .u8 17) (.int .i64 0) (.int .u8 cd) (.int .u32 0) (.bool false) (.int .u8 0) (.int .u8 0) (.slice none 0 0) (.slice none 0 0); rw [show (w.alloc (.cells #[.int .u8 0, .int .i64 0, .int .u8 0, .int .u32 0, .bool false, .int .u8 0, .int .u8 0, .slice none 0 0, .slice none 0 0] 27)).heap.size = w.heap.size + 1 by simp] at this; exact this, HX.out.keep (Below.heap_alloc _ _ _ S1.out), by first | exact B.out.alloc B.out.size _ | exact (B.out.alloc B.out.size _).drew⟩
  case rest =>
    obtain ⟨Y, rfl, hY, hmy, hmx, hbel⟩ := hcut
    have HY := Lib.hid hY
    have HMY := Lib.hid hmy
    have HMX := Lib.hid hmx
    have HBE := Lib.hid hbel
    have hbY : b0 ≠ Y := by omega
    have hXY : w.heap.size ≠ Y := by omega
    have g0 := (HBE.out.cell (p := ⟨b0, off, none⟩) lb).trans e0
    have g1 := (HBE.out.cell (p := ⟨b0, off + 1, none⟩) lb).trans e1
    clear hmy hmx hbel
    obtain ⟨gv, hg⟩ : ∃ gv, gv = ofv ((xs.drop 4).take 4) := ⟨_, rfl⟩
    have HG := Lib.hid hg
    have gb : 0 ≤ gv ∧ gv ≤ 4294967295 := by rw [hg]; exact ofv_at HI.out (by have := HXS.out; omega)
    have HGB := Lib.hid gb
    clear hg gb
    have ES := Lib.hid (end_short (by rw [HE.out, if_neg (by rw [HKI.out]; simp)]) (decN_q3s (by have := HXS.out; omega) (by rw [← HK.out]) (by have := HXS.out; omega)))
    have hne8 : ((n : Int) == 8) = false := by rw [beq_eq_false_iff_ne]; omega
    have hgt8 : (n : Int) > 8 := by omega
    have HSH := Lib.hid hsh
    clear hsh
    go_wp2_with fail
    refine (rAt4 b0 off n c xs _ (HAT.out.below HBE.out) hn hnc n8).mono ?_
    rintro e w5 ⟨rfl, hb5⟩
    rw [← HG.out]
    have MY5 := HMY.out.below hb5 HMY.out.lt
    have MX5 := HMX.out.below hb5 HMX.out.lt
    have BE5 := HBE.out.trans (hb5.mono HBE.out.size)
    obtain ⟨-, y1, -, y3, -, -, -, -, -, yf⟩ := MY5.cells
    have yf3 := yf 3
    have yf1 := yf 1
    obtain ⟨W6, hW6⟩ : ∃ W6, (w5.setCell ⟨Y, 3, none⟩ (.int .u32 gv)).setCell ⟨Y, 1, none⟩ (.int .i64 2) = W6 := ⟨_, rfl⟩
    have HW6 := Lib.hid hW6
    have my6 := (MY5.set3 (.int .u32 gv)).set1 (.int .i64 2)
    have mx6 := (MX5.keep (w' := w5.setCell ⟨Y, 3, none⟩ (.int .u32 gv)) (set_other hXY)).keep (w' := (w5.setCell ⟨Y, 3, none⟩ (.int .u32 gv)).setCell ⟨Y, 1, none⟩ (.int .i64 2)) (set_other hXY)
    have be6 := bel_set (bel_set BE5 (by omega : w.heap.size ≤ Y) (.int .u32 gv) (j := 3)) (by omega : w.heap.size ≤ Y) (.int .i64 2) (j := 1)
    rw [hW6] at my6 mx6 be6
    have MY6 := Lib.hid my6
    have MX6 := Lib.hid mx6
    have BE6 := Lib.hid be6
    have g1 := (BE6.out.cell (p := ⟨b0, off + 1, none⟩) lb).trans e1
    clear MY5 MX5 BE5 yf hb5 my6 mx6 be6 hW6
    go_upto_region 24 with fail
    rw [HW6.out]
    clear y3 yf3 y1 yf1 HW6 g0
    by_cases h12 : (n : Int) < 12
    · obtain ⟨z0, z1, z2, z3, z4, z5, z6, z7, z8, zf⟩ := MX6.out.cells
      have zf0 := zf 0
      have zf1 := zf 1
      have zf2 := zf 2
      have zf3 := zf 3
      have zf4 := zf 4
      have zf5 := zf 5
      have zf6 := zf 6
      have zf7 := zf 7
      have zf8 := zf 8
      clear zf
      go_wp2
      refine ret_cell2 rfl rfl rfl ((MX6.out.store (.int .u8 0) (.int .i64 0) (.int .u8 0) (.int .u32 0) (.bool false) (.int .u8 0) (.int .u8 0) (.slice none 0 0) (.slice none 0 0)).load) ?_
      refine ⟨none, 0, none, 0, ?_, ?_, ?_⟩
      · rw [ES.out.1, ES.out.2]; rfl
      · rw [ES.out.2]; exact ms0 _
      · exact bel_store BE6.out (Nat.le_refl _) _ _ _ _ _ _ _ _ _
    obtain ⟨m, hm⟩ : ∃ m, m = numV xs 10 := ⟨_, rfl⟩
    have m65 : m ≤ 65535 := by rw [hm]; exact (numV_bd HI.out 10).1
    have HM := Lib.hid hm
    have hlt : n < 12 + 4 * m := by have := HSH.out; omega
    clear hm
    go_wp2_with fail
    refine (rTwo10 b0 off n c xs _ (HAT.out.below BE6.out) hn (by omega)).mono ?_
    rintro e w7 ⟨rfl, hb7⟩
    rw [← HM.out]
    have MX7 := Lib.hid (MX6.out.below hb7 MX6.out.lt)
    have BE7 := Lib.hid (BE6.out.trans (hb7.mono BE6.out.size))
    clear hb7
    go_wp2_with fail
    refine (rMany12_no b0 off n c m _ hn m65 hlt).mono ?_
    rintro e w8 ⟨rfl, hb8⟩
    have MX8 := Lib.hid (MX7.out.below hb8 MX7.out.lt)
    have BE8 := Lib.hid (BE7.out.trans (hb8.mono BE7.out.size))
    clear hb8
    obtain ⟨z0, z1, z2, z3, z4, z5, z6, z7, z8, zf⟩ := MX8.out.cells
    have zf0 := zf 0
    have zf1 := zf 1
    have zf2 := zf 2
    have zf3 := zf 3
    have zf4 := zf 4
    have zf5 := zf 5
    have zf6 := zf 6
    have zf7 := zf 7
    have zf8 := zf 8
    clear zf
    go_wp2
    refine ret_cell2 rfl rfl rfl ((MX8.out.store (.int .u8 0) (.int .i64 0) (.int .u8 0) (.int .u32 0) (.bool false) (.int .u8 0) (.int .u8 0) (.slice none 0 0) (.slice none 0 0)).load) ?_
    refine ⟨none, 0, none, 0, ?_, ?_, ?_⟩
    · rw [ES.out.1, ES.out.2]; rfl
    · rw [ES.out.2]; exact ms0 _
    · exact bel_store BE8.out (Nat.le_refl _) _ _ _ _ _ _ _ _ _

set_option maxRecDepth 100000 in
set_option maxHeartbeats 8000000 in
theorem rDec_q3 (b0 off n c : Nat) (xs : List Int) (w : World) (hx : xs.length = n) (hn : n ≤ 1000000) (hnc : n ≤ c) (h8 : ¬ n < 8) (hb : Bs w (some ⟨b0, off, none⟩) xs) (hs : ofs xs = 0) (hkk : xs.getD 0 0 = 17) (hn8 : 8 < n) (hn12 : 12 ≤ n) (hnm : 12 + 4 * numV xs 10 ≤ n) :
    Calls Try.prog 21 #[.slice (some ⟨b0, off, none⟩) n c] w fun e w' => ∃ sa sc ra rc, e = .returned (.tuple #[.agg #[.int .u8 (decM xs).kind, .int .i64 (decM xs).ver, .int .u8 (decM xs).code, .int .u32 (decM xs).grp, .bool (decM xs).quiet, .int .u8 (decM xs).rob, .int .u8 (decM xs).every, .slice sa (decM xs).srcs.length sc, .slice ra (decM xs).recs.length rc], .int .i64 (decE xs)]) ∧ Ms w' (decM xs) sa ra ∧ Below w.heap.size w w' := by
  have HAT := Lib.hid (show At w b0 off n xs from ⟨hx, hb.2, by
    intro j hj
    rcases hb.1 with rfl | ⟨b, o, e, hc⟩
    · simp at hx; omega
    · simp at e; obtain ⟨rfl, rfl⟩ := e; exact hc j (by omega)⟩)
  obtain ⟨k, hk⟩ : ∃ k, k = xs.getD 0 0 := ⟨_, rfl⟩
  obtain ⟨cd, hcd⟩ : ∃ cd, cd = xs.getD 1 0 := ⟨_, rfl⟩
  have HE : Hid (decE xs = if isKind k = false then 2 else endE (decN xs)) := Lib.hid (by unfold decE; rw [if_neg (by omega), if_neg (by rw [hs]; simp), ← hk])
  have e0 : w.cell? ⟨b0, off, none⟩ = some (.int .u8 k) := by rw [hk]; exact HAT.out.2.2 0 (by omega)
  have e1 : w.cell? ⟨b0, off + 1, none⟩ = some (.int .u8 cd) := by rw [hcd]; exact HAT.out.2.2 1 (by omega)
  have lb := cell_lt e0
  simp only at lb
  have HBG : Hid (mBegin xs = { m0 with kind := k, code := cd }) := Lib.hid (by rw [hk, hcd]; rfl)
  have HK := Lib.hid hk
  have HCD := Lib.hid hcd
  have HB := Lib.hid hb
  have HXS := Lib.hid hx
  have HS := Lib.hid hs
  have HI := Lib.hid (show IsB xs from hb.2)
  have HX := Lib.hid (MB.new w (.int .u8 0) (.int .i64 0) (.int .u8 0) (.int .u32 0) (.bool false) (.int .u8 0) (.int .u8 0) (.slice none 0 0) (.slice none 0 0))
  have B := Lib.hid (bel1 w (.cells #[.int .u8 0, .int .i64 0, .int .u8 0, .int .u32 0, .bool false, .int .u8 0, .int .u8 0, .slice none 0 0, .slice none 0 0] 27))
  have q7 : (0 : Int) < (n : Int) := by omega
  have q8 : (1 : Int) < (n : Int) := by omega
  have q9 : 0 < n := by omega
  have q10 : 1 < n := by omega
  have q11 : ¬ ((n : Int) < 8) := by omega
  have n8 : 8 ≤ n := by omega
  obtain rfl : k = 17 := hk.trans hkk
  have HKI : Hid (isKind 17 = true) := Lib.hid rfl
  have HNM := Lib.hid hnm
  clear hnm
  clear hk hcd hb hx hs h8
  go_enter Try.func21, Try.ntmps21
  go_upto_region 5 with (go_at_call 40; refine (rOf2 (some ⟨b0, off, none⟩) n c xs _ HXS.out hn (bs_below HB.out B.out)).mono ?_; rintro e w1 ⟨rfl, hw1⟩; rw [HS.out]; have X1 : Hid (MB w1 w.heap.size (.int .u8 0) (.int .i64 0) (.int .u8 0) (.int .u32 0) (.bool false) (.int .u8 0) (.int .u8 0) (.slice none 0 0) (.slice none 0 0)) := Lib.hid (by rw [← hw1]; exact HX.out); have B1 : Hid (Below w.heap.size w w1) := Lib.hid (by rw [← hw1]; exact B.out); have S1 : Hid (w.heap.size < w1.heap.size) := Lib.hid X1.out.lt; have g0 := (B1.out.cell (p := ⟨b0, off, none⟩) lb).trans e0; have g1 := (B1.out.cell (p := ⟨b0, off + 1, none⟩) lb).trans e1; have lb1 : b0 < w1.heap.size := (by have := S1.out; omega); subst hw1)
  go_cut [4] (fun s4 wx => ∃ Y, s4 = .pointer (some ⟨Y, 0, none⟩) ∧ w.heap.size < Y ∧ MB wx Y (.int .u8 17) (.int .i64 0) (.int .u8 cd) (.int .u32 0) (.bool false) (.int .u8 0) (.int .u8 0) (.slice none 0 0) (.slice none 0 0) ∧ MB wx w.heap.size (.int .u8 0) (.int .i64 0) (.int .u8 0) (.int .u32 0) (.bool false) (.int .u8 0) (.int .u8 0) (.slice none 0 0) (.slice none 0 0) ∧ Below w.heap.size w wx)
  case first =>
    have S1 : Hid (w.heap.size < (w.alloc (.cells #[.int .u8 0, .int .i64 0, .int .u8 0, .int .u32 0, .bool false, .int .u8 0, .int .u8 0, .slice none 0 0, .slice none 0 0] 27)).heap.size) := Lib.hid HX.out.lt
    go_region
    all_goals
      go_wp2_with fail
      go_meet
      exact ⟨w.heap.size + 1, rfl, by omega, by have := MB.new (w.alloc (.cells #[.int .u8 0, .int .i64 0, .int .u8 0, .int .u32 0, .bool false, .int .u8 0, .int .u8 0, .slice none 0 0, .slice none 0 0] 27)) (.int .u8 17) (.int .i64 0) (.int .u8 cd) (.int .u32 0) (.bool false) (.int .u8 0) (.int .u8 0) (.slice none 0 0) (.slice none 0 0); rw [show (w.alloc (.cells #[.int .u8 0, .int .i64 0, .int .u8 0, .int .u32 0, .bool false, .int .u8 0, .int .u8 0, .slice none 0 0, .slice none 0 0] 27)).heap.size = w.heap.size + 1 by simp] at this; exact this, HX.out.keep (Below.heap_alloc _ _ _ S1.out), by first | exact B.out.alloc B.out.size _ | exact (B.out.alloc B.out.size _).drew⟩
  case rest =>
    obtain ⟨Y, rfl, hY, hmy, hmx, hbel⟩ := hcut
    have HY := Lib.hid hY
    have HMY := Lib.hid hmy
    have HMX := Lib.hid hmx
    have HBE := Lib.hid hbel
    have hbY : b0 ≠ Y := by omega
    have hXY : w.heap.size ≠ Y := by omega
    have g0 := (HBE.out.cell (p := ⟨b0, off, none⟩) lb).trans e0
    have g1 := (HBE.out.cell (p := ⟨b0, off + 1, none⟩) lb).trans e1
    clear hmy hmx hbel
    obtain ⟨gv, hg⟩ : ∃ gv, gv = ofv ((xs.drop 4).take 4) := ⟨_, rfl⟩
    have HG := Lib.hid hg
    have gb : 0 ≤ gv ∧ gv ≤ 4294967295 := by rw [hg]; exact ofv_at HI.out (by have := HXS.out; omega)
    have HGB := Lib.hid gb
    clear hg gb
    obtain ⟨x8, hx8⟩ : ∃ x8, x8 = xs.getD 8 0 := ⟨_, rfl⟩
    obtain ⟨x9, hx9⟩ : ∃ x9, x9 = xs.getD 9 0 := ⟨_, rfl⟩
    obtain ⟨m, hm⟩ : ∃ m, m = numV xs 10 := ⟨_, rfl⟩
    have e8 : w.cell? ⟨b0, off + 8, none⟩ = some (.int .u8 x8) := by rw [hx8]; exact HAT.out.2.2 8 (by omega)
    have e9 : w.cell? ⟨b0, off + 9, none⟩ = some (.int .u8 x9) := by rw [hx9]; exact HAT.out.2.2 9 (by omega)
    have E8 := Lib.hid e8
    have E9 := Lib.hid e9
    have DN : Hid (decN xs = ⟨⟨xs.drop (12 + 4 * m), false⟩, false, ⟨17, 3, cd, gv, (x8 / 8 % 2 == 1), x8 % 8, x9, manyV xs 12 m, []⟩⟩) := Lib.hid (by rw [decN_q3 (by have := HXS.out; omega) (by rw [← HK.out]) (by have := HXS.out; omega) (by have := HXS.out; have := HNM.out; omega), HBG.out, ← HG.out, hx8, hx9, hm]; rfl)
    have bx8 : 0 ≤ x8 ∧ x8 ≤ 255 := by rw [hx8]; exact byte_at HI.out 8
    have BX9 : Hid (0 ≤ x9 ∧ x9 ≤ 255) := Lib.hid (by rw [hx9]; exact byte_at HI.out 9)
    have m65 : m ≤ 65535 := by rw [hm]; exact (numV_bd HI.out 10).1
    have LE : 12 + 4 * m ≤ n := by rw [hm]; exact HNM.out
    obtain ⟨x80, x81⟩ := bx8
    have OK : Hid ((⟨17, 3, cd, gv, (x8 / 8 % 2 == 1), x8 % 8, x9, manyV xs 12 m, []⟩ : Msg).ok) := Lib.hid (by have h1 := byte_at HI.out 1; rw [← HCD.out] at h1; have h2 := HGB.out; have h3 := BX9.out; simp [Msg.ok, manyV_len]; omega)
    have HA : Hid (IsA (manyV xs 12 m)) := Lib.hid (manyV_A HI.out m 12 (by have := HXS.out; omega))
    have HM := Lib.hid hm
    have hne8 : ((n : Int) == 8) = false := by rw [beq_eq_false_iff_ne]; omega
    have hgt8 : (n : Int) > 8 := by omega
    have h12 : ¬ ((n : Int) < 12) := by omega
    have r1 : (8 : Int) < (n : Int) := by omega
    have r2 : (9 : Int) < (n : Int) := by omega
    have r3 : 8 < n := by omega
    have r4 : 9 < n := by omega
    clear hx8 hx9 hm e8 e9
    go_wp2_with fail
    refine (rAt4 b0 off n c xs _ (HAT.out.below HBE.out) hn hnc n8).mono ?_
    rintro e w5 ⟨rfl, hb5⟩
    rw [← HG.out]
    have MY5 := HMY.out.below hb5 HMY.out.lt
    have MX5 := HMX.out.below hb5 HMX.out.lt
    have BE5 := HBE.out.trans (hb5.mono HBE.out.size)
    obtain ⟨-, y1, -, y3, -, -, -, -, -, yf⟩ := MY5.cells
    have yf3 := yf 3
    have yf1 := yf 1
    obtain ⟨W6, hW6⟩ : ∃ W6, (w5.setCell ⟨Y, 3, none⟩ (.int .u32 gv)).setCell ⟨Y, 1, none⟩ (.int .i64 2) = W6 := ⟨_, rfl⟩
    have HW6 := Lib.hid hW6
    have my6 := (MY5.set3 (.int .u32 gv)).set1 (.int .i64 2)
    have mx6 := (MX5.keep (w' := w5.setCell ⟨Y, 3, none⟩ (.int .u32 gv)) (set_other hXY)).keep (w' := (w5.setCell ⟨Y, 3, none⟩ (.int .u32 gv)).setCell ⟨Y, 1, none⟩ (.int .i64 2)) (set_other hXY)
    have be6 := bel_set (bel_set BE5 (by omega : w.heap.size ≤ Y) (.int .u32 gv) (j := 3)) (by omega : w.heap.size ≤ Y) (.int .i64 2) (j := 1)
    rw [hW6] at my6 mx6 be6
    have MY6 := Lib.hid my6
    have MX6 := Lib.hid mx6
    have BE6 := Lib.hid be6
    have g1 := (BE6.out.cell (p := ⟨b0, off + 1, none⟩) lb).trans e1
    clear MY5 MX5 BE5 yf hb5 my6 mx6 be6 hW6
    go_upto_region 24 with fail
    rw [HW6.out]
    clear y3 yf3 y1 yf1 HW6 g0
    go_wp2_with fail
    refine (rTwo10 b0 off n c xs _ (HAT.out.below BE6.out) hn hn12).mono ?_
    rintro e w7 ⟨rfl, hb7⟩
    rw [← HM.out]
    have MX7 := Lib.hid (MX6.out.below hb7 MX6.out.lt)
    have MY7 := Lib.hid (MY6.out.below hb7 MY6.out.lt)
    have BE7 := Lib.hid (BE6.out.trans (hb7.mono BE6.out.size))
    clear hb7
    go_wp2_with fail
    refine (rMany12 b0 off n c m xs _ (HAT.out.below BE7.out) hn hnc m65 LE).mono ?_
    rintro e w8 ⟨a8, cap8, rfl, has, hb8⟩
    have MX8 := Lib.hid (MX7.out.below hb8 MX7.out.lt)
    have my8 := MY7.out.below hb8 MY7.out.lt
    have BE8 := Lib.hid (BE7.out.trans (hb8.mono BE7.out.size))
    have AS8 := Lib.hid has
    have WC : Hid (Y < w7.heap.size) := Lib.hid MY7.out.lt
    have MY8 := Lib.hid my8
    obtain ⟨-, y1, -, -, y4, y5, y6, y7, -, yf⟩ := my8.cells
    have yf1 := yf 1
    have yf4 := yf 4
    have yf5 := yf 5
    have yf6 := yf 6
    have yf7 := yf 7
    have g8 := (BE8.out.cell (p := ⟨b0, off + 8, none⟩) lb).trans E8.out
    have g9 := (BE8.out.cell (p := ⟨b0, off + 9, none⟩) lb).trans E9.out
    clear hb8 has my8 yf g1
    obtain ⟨W9, hW9⟩ : ∃ W9, ((((w8.setCell ⟨Y, 1, none⟩ (.int .i64 3)).setCell ⟨Y, 5, none⟩ (.int .u8 (x8 % 8))).setCell ⟨Y, 4, none⟩ (.bool (x8 / 8 % 2 == 1))).setCell ⟨Y, 6, none⟩ (.int .u8 x9)).setCell ⟨Y, 7, none⟩ (.slice a8 m cap8) = W9 := ⟨_, rfl⟩
    have HW9 := Lib.hid hW9
    have my9 := ((((MY8.out.set1 (.int .i64 3)).set5 (.int .u8 (x8 % 8))).set4 (.bool (x8 / 8 % 2 == 1))).set6 (.int .u8 x9)).set7 (.slice a8 m cap8)
    have hst : ∀ q, q ≠ Y → (((((w8.setCell ⟨Y, 1, none⟩ (.int .i64 3)).setCell ⟨Y, 5, none⟩ (.int .u8 (x8 % 8))).setCell ⟨Y, 4, none⟩ (.bool (x8 / 8 % 2 == 1))).setCell ⟨Y, 6, none⟩ (.int .u8 x9)).setCell ⟨Y, 7, none⟩ (.slice a8 m cap8)).heap[q]? = w8.heap[q]? := fun q hq => by rw [set_other hq, set_other hq, set_other hq, set_other hq, set_other hq]
    have mx9 := MX8.out.keep (hst _ hXY)
    have be9 : Below w.heap.size w (((((w8.setCell ⟨Y, 1, none⟩ (.int .i64 3)).setCell ⟨Y, 5, none⟩ (.int .u8 (x8 % 8))).setCell ⟨Y, 4, none⟩ (.bool (x8 / 8 % 2 == 1))).setCell ⟨Y, 6, none⟩ (.int .u8 x9)).setCell ⟨Y, 7, none⟩ (.slice a8 m cap8)) := bel_set (bel_set (bel_set (bel_set (bel_set BE8.out (by omega) _) (by omega) _) (by omega) _) (by omega) _) (by omega) _
    have as9 := AS8.out.keep (w' := ((((w8.setCell ⟨Y, 1, none⟩ (.int .i64 3)).setCell ⟨Y, 5, none⟩ (.int .u8 (x8 % 8))).setCell ⟨Y, 4, none⟩ (.bool (x8 / 8 % 2 == 1))).setCell ⟨Y, 6, none⟩ (.int .u8 x9)).setCell ⟨Y, 7, none⟩ (.slice a8 m cap8)) fun g cur hB _ => hst g (by have := WC.out; omega)
    rw [hW9] at my9 mx9 be9 as9
    have MY9 : Hid (MB W9 Y (.int .u8 17) (.int .i64 3) (.int .u8 cd) (.int .u32 gv) (.bool (x8 / 8 % 2 == 1)) (.int .u8 (x8 % 8)) (.int .u8 x9) (.slice a8 (manyV xs 12 m).length cap8) (.slice none 0 0)) := Lib.hid (by rw [manyV_len]; exact my9)
    have MX9 := Lib.hid mx9
    have BE9 := Lib.hid be9
    have UP9 : Hid (MsUp w.heap.size W9 ⟨17, 3, cd, gv, (x8 / 8 % 2 == 1), x8 % 8, x9, manyV xs 12 m, []⟩ a8 none) := Lib.hid (up_srcs OK.out as9 (by have := WC.out; omega) HA.out rfl)
    clear my9 mx9 be9 as9 hst hW9
    go_upto_region 39 with fail
    rw [HW9.out]
    clear y1 y4 y5 y6 y7 yf1 yf4 yf5 yf6 yf7 g8 g9 HW9
    have EE : Hid (decE xs = endE (decN xs)) := Lib.hid (by rw [HE.out, if_neg (by rw [HKI.out]; simp)])
    rw [DN.out] at EE
    obtain ⟨y, hy⟩ : ∃ y, y = right ⟨17, 3, cd, gv, (x8 / 8 % 2 == 1), x8 % 8, x9, manyV xs 12 m, []⟩ := ⟨_, rfl⟩
    have HRT := Lib.hid hy
    clear hy
    obtain ⟨y0, y1, y2, y3, y4, y5, y6, y7, y8, yf⟩ := MY9.out.cells
    have yf0 := yf 0
    have yf1 := yf 1
    have yf2 := yf 2
    have yf3 := yf 3
    have yf4 := yf 4
    have yf5 := yf 5
    have yf6 := yf 6
    have yf7 := yf 7
    have yf8 := yf 8
    clear yf
    by_cases hEn : 12 + 4 * m = n
    case neg =>
      have hlt : 12 + 4 * m < n := by have := LE; omega
      have ER := Lib.hid (end_more HXS.out EE.out rfl hlt)
      have hne : (((12 + 4 * (m : Int)) : Int) != (n : Int)) = true := by rw [bne_iff_ne]; omega
      go_wp2_with fail
      refine (rRight ⟨17, 3, cd, gv, (x8 / 8 % 2 == 1), x8 % 8, x9, manyV xs 12 m, []⟩ a8 none cap8 0 _ UP9.out.self).mono ?_
      rintro e7 w7 ⟨rfl, hb7⟩
      rw [← HRT.out]
      have MX7 := Lib.hid (MX9.out.below hb7 MX9.out.lt)
      have MY7 := Lib.hid (MY9.out.below hb7 MY9.out.lt)
      have BE7 := Lib.hid (BE9.out.trans (hb7.mono BE9.out.size))
      have HB7 := Lib.hid hb7
      obtain ⟨z0, z1, z2, z3, z4, z5, z6, z7, z8, zf⟩ := MX7.out.cells
      have zf0 := zf 0
      have zf1 := zf 1
      have zf2 := zf 2
      have zf3 := zf 3
      have zf4 := zf 4
      have zf5 := zf 5
      have zf6 := zf 6
      have zf7 := zf 7
      have zf8 := zf 8
      clear zf
      obtain ⟨t0, t1, t2, t3, t4, t5, t6, t7, t8, -⟩ := MY7.out.cells
      clear hb7
      go_wp2_with fail
      refine ret_cell2 rfl rfl rfl ((MX7.out.store (.int .u8 0) (.int .i64 0) (.int .u8 0) (.int .u32 0) (.bool false) (.int .u8 0) (.int .u8 0) (.slice none 0 0) (.slice none 0 0)).load) ?_
      refine ⟨none, 0, none, 0, ?_, ?_, ?_⟩
      · rw [ER.out.1, ER.out.2]; rfl
      · rw [ER.out.2]; exact ms0 _
      · exact bel_store BE7.out (Nat.le_refl _) _ _ _ _ _ _ _ _ _
    have hne : (((12 + 4 * (m : Int)) : Int) != (n : Int)) = false := by rw [bne_eq_false_iff_eq]; omega
    have HEN := Lib.hid hEn
    clear hEn
    cases y with
    | false =>
      have ER := Lib.hid (end_not (n := n) EE.out rfl HRT.out.symm)
      go_wp2_with fail
      refine (rRight ⟨17, 3, cd, gv, (x8 / 8 % 2 == 1), x8 % 8, x9, manyV xs 12 m, []⟩ a8 none cap8 0 _ UP9.out.self).mono ?_
      rintro e7 w7 ⟨rfl, hb7⟩
      rw [← HRT.out]
      have MX7 := Lib.hid (MX9.out.below hb7 MX9.out.lt)
      have MY7 := Lib.hid (MY9.out.below hb7 MY9.out.lt)
      have BE7 := Lib.hid (BE9.out.trans (hb7.mono BE9.out.size))
      have HB7 := Lib.hid hb7
      obtain ⟨z0, z1, z2, z3, z4, z5, z6, z7, z8, zf⟩ := MX7.out.cells
      have zf0 := zf 0
      have zf1 := zf 1
      have zf2 := zf 2
      have zf3 := zf 3
      have zf4 := zf 4
      have zf5 := zf 5
      have zf6 := zf 6
      have zf7 := zf 7
      have zf8 := zf 8
      clear zf
      obtain ⟨t0, t1, t2, t3, t4, t5, t6, t7, t8, -⟩ := MY7.out.cells
      clear hb7
      go_wp2_with fail
      refine ret_cell2 rfl rfl rfl ((MX7.out.store (.int .u8 0) (.int .i64 0) (.int .u8 0) (.int .u32 0) (.bool false) (.int .u8 0) (.int .u8 0) (.slice none 0 0) (.slice none 0 0)).load) ?_
      refine ⟨none, 0, none, 0, ?_, ?_, ?_⟩
      · rw [ER.out.1, ER.out.2]; rfl
      · rw [ER.out.2]; exact ms0 _
      · exact bel_store BE7.out (Nat.le_refl _) _ _ _ _ _ _ _ _ _
    | true =>
      have ER : Hid (decE xs = 0 ∧ decM xs = ⟨17, 3, cd, gv, (x8 / 8 % 2 == 1), x8 % 8, x9, manyV xs 12 m, []⟩) := Lib.hid (end_ok HXS.out EE.out DN.out (by rw [HEN.out]) rfl HRT.out.symm)
      go_wp2_with fail
      refine (rRight ⟨17, 3, cd, gv, (x8 / 8 % 2 == 1), x8 % 8, x9, manyV xs 12 m, []⟩ a8 none cap8 0 _ UP9.out.self).mono ?_
      rintro e7 w7 ⟨rfl, hb7⟩
      rw [← HRT.out]
      have MX7 := Lib.hid (MX9.out.below hb7 MX9.out.lt)
      have MY7 := Lib.hid (MY9.out.below hb7 MY9.out.lt)
      have BE7 := Lib.hid (BE9.out.trans (hb7.mono BE9.out.size))
      have HB7 := Lib.hid hb7
      obtain ⟨z0, z1, z2, z3, z4, z5, z6, z7, z8, zf⟩ := MX7.out.cells
      have zf0 := zf 0
      have zf1 := zf 1
      have zf2 := zf 2
      have zf3 := zf 3
      have zf4 := zf 4
      have zf5 := zf 5
      have zf6 := zf 6
      have zf7 := zf 7
      have zf8 := zf 8
      clear zf
      obtain ⟨t0, t1, t2, t3, t4, t5, t6, t7, t8, -⟩ := MY7.out.cells
      clear hb7
      go_wp2_with fail
      refine ret_cell2 rfl rfl rfl ((MX7.out.store (.int .u8 17) (.int .i64 3) (.int .u8 cd) (.int .u32 gv) (.bool (x8 / 8 % 2 == 1)) (.int .u8 (x8 % 8)) (.int .u8 x9) (.slice a8 (manyV xs 12 m).length cap8) (.slice none 0 0)).load) ?_
      refine ⟨a8, cap8, none, 0, ?_, ?_, ?_⟩
      · rw [ER.out.1, ER.out.2]; rfl
      · rw [ER.out.2]
        exact UP9.out _ (by rw [set_size, set_size, set_size, set_size, set_size, set_size, set_size, set_size, set_size]; exact HB7.out.size) (fun q hq hq2 => (store_other (by omega) _ _ _ _ _ _ _ _ _).trans (HB7.out.block q hq2))
      · exact bel_store BE7.out (Nat.le_refl _) _ _ _ _ _ _ _ _ _
end Go.Proofs.Ytmcnanoamgkljaa
/- The message of bytes, whatever they are: the program's answer, and the document's. -/
namespace Go.Proofs.Ytmcnanoamgkljaa
set_option linter.unusedVariables false
open Go.RowKit

theorem bs_some {w : World} {a : Option Addr} {xs : List Int} (h : Bs w a xs) (hp : 0 < xs.length) : ∃ b off, a = some ⟨b, off, none⟩ := by
  rcases h.1 with rfl | ⟨b, off, e, _⟩
  · simp at hp
  · exact ⟨b, off, e⟩
theorem gDecode (a : Option Addr) (n c : Nat) (xs : List Int) (w : World) (hx : xs.length = n) (hn : n ≤ 1000000) (hnc : n ≤ c) (hb : Bs w a xs) :
    Calls Try.prog 20 #[.slice a n c] w fun e w' => ∃ sa sc ra rc, e = .returned (.tuple #[.agg #[.int .u8 (decM xs).kind, .int .i64 (decM xs).ver, .int .u8 (decM xs).code, .int .u32 (decM xs).grp, .bool (decM xs).quiet, .int .u8 (decM xs).rob, .int .u8 (decM xs).every, .slice sa (decM xs).srcs.length sc, .slice ra (decM xs).recs.length rc], .int .i64 (decE xs)]) ∧ Ms w' (decM xs) sa ra ∧ Below w.heap.size w w' := by
  by_cases h8 : n < 8
  · exact gDec_A a n c xs w hx h8
  by_cases hs : ofs xs = 0
  · obtain ⟨b, off, rfl⟩ := bs_some hb (by omega)
    exact gDec_C b off n c xs w hx hn hnc h8 hb hs
  · exact gDec_B a n c xs w hx hn h8 hb hs
theorem rDecode (a : Option Addr) (n c : Nat) (xs : List Int) (w : World) (hx : xs.length = n) (hn : n ≤ 1000000) (hnc : n ≤ c) (hb : Bs w a xs) :
    Calls Try.prog 21 #[.slice a n c] w fun e w' => ∃ sa sc ra rc, e = .returned (.tuple #[.agg #[.int .u8 (decM xs).kind, .int .i64 (decM xs).ver, .int .u8 (decM xs).code, .int .u32 (decM xs).grp, .bool (decM xs).quiet, .int .u8 (decM xs).rob, .int .u8 (decM xs).every, .slice sa (decM xs).srcs.length sc, .slice ra (decM xs).recs.length rc], .int .i64 (decE xs)]) ∧ Ms w' (decM xs) sa ra ∧ Below w.heap.size w w' := by
  by_cases h8 : n < 8
  · exact rDec_A a n c xs w hx h8
  by_cases hs : ofs xs = 0
  case neg => exact rDec_B a n c xs w hx hn h8 hb hs
  obtain ⟨b, off, rfl⟩ := bs_some hb (by omega)
  by_cases k18 : xs.getD 0 0 = 18
  · exact rDec_18 b off n c xs w hx hn hnc h8 hb hs k18
  by_cases k22 : xs.getD 0 0 = 22
  · exact rDec_22 b off n c xs w hx hn hnc h8 hb hs k22
  by_cases k23 : xs.getD 0 0 = 23
  · exact rDec_23 b off n c xs w hx hn hnc h8 hb hs k23
  by_cases k34 : xs.getD 0 0 = 34
  · cases hr : recsV xs (numV xs 6) 8 with
    | none => exact rDec_34n b off n c xs w hx hn hnc h8 hb hs k34 hr
    | some r =>
      obtain ⟨l, en⟩ := r
      by_cases hw : numV xs 4 = 0
      · exact rDec_34 b off n c xs w hx hn hnc h8 hb hs k34 l en hr hw
      · exact rDec_34w b off n c xs w hx hn hnc h8 hb hs k34 l en hr hw
  by_cases k17 : xs.getD 0 0 = 17
  · by_cases hn8 : n = 8
    · by_cases hc0 : xs.getD 1 0 = 0
      · exact rDec_q1 b off n c xs w hx hn hnc h8 hb hs k17 hn8 hc0
      · exact rDec_q2 b off n c xs w hx hn hnc h8 hb hs k17 hn8 hc0
    · by_cases hsh : n < 12 ∨ n < 12 + 4 * numV xs 10
      · exact rDec_q3s b off n c xs w hx hn hnc h8 hb hs k17 (by omega) hsh
      · exact rDec_q3 b off n c xs w hx hn hnc h8 hb hs k17 (by omega) (by omega) (by omega)
  exact rDec_no b off n c xs w hx hn hnc h8 hb hs (by unfold isKind; rw [decide_eq_false_iff_not]; omega)
end Go.Proofs.Ytmcnanoamgkljaa
