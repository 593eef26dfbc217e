/- The message of bytes, the document's own answer: messages with a group. -/
import Derived.Test.YtmcnanoamgkljaaQ0
import Derived.Test.YtmcnanoamgkljaaQ1
import Derived.Test.YtmcnanoamgkljaaQ2
import Derived.Test.YtmcnanoamgkljaaQ3
import Derived.Test.YtmcnanoamgkljaaQ4
import Derived.Test.YtmcnanoamgkljaaQ5
import Derived.Test.YtmcnanoamgkljaaQ6
import Derived.Test.YtmcnanoamgkljaaQ7
import Derived.Test.YtmcnanoamgkljaaQ8
namespace Go.Proofs.Ytmcnanoamgkljaa
set_option linter.unusedVariables false
open Go.RowKit

set_option maxRecDepth 100000 in
set_option maxHeartbeats 8000000 in
theorem rDec_18 (b0 off n c : Nat) (xs : List Int) (w : World) (hx : xs.length = n) (hn : n ≤ 1000000) (hnc : n ≤ c) (h8 : ¬ n < 8) (hb : Bs w (some ⟨b0, off, none⟩) xs) (hs : ofs xs = 0) (hkk : xs.getD 0 0 = 18) :
    Calls Try.prog 21 #[.slice (some ⟨b0, off, none⟩) n c] w fun e w' => ∃ sa sc ra rc, e = .returned (.tuple #[.agg #[.int .u8 (decM xs).kind, .int .i64 (decM xs).ver, .int .u8 (decM xs).code, .int .u32 (decM xs).grp, .bool (decM xs).quiet, .int .u8 (decM xs).rob, .int .u8 (decM xs).every, .slice sa (decM xs).srcs.length sc, .slice ra (decM xs).recs.length rc], .int .i64 (decE xs)]) ∧ Ms w' (decM xs) sa ra ∧ Below w.heap.size w w' := by
  have HAT := Lib.hid (show At w b0 off n xs from ⟨hx, hb.2, by
    intro j hj
    rcases hb.1 with rfl | ⟨b, o, e, hc⟩
    · simp at hx; omega
    · simp at e; obtain ⟨rfl, rfl⟩ := e; exact hc j (by omega)⟩)
  obtain ⟨k, hk⟩ : ∃ k, k = xs.getD 0 0 := ⟨_, rfl⟩
  obtain ⟨cd, hcd⟩ : ∃ cd, cd = xs.getD 1 0 := ⟨_, rfl⟩
  have HE : Hid (decE xs = if isKind k = false then 2 else endE (decN xs)) := Lib.hid (by unfold decE; rw [if_neg (by omega), if_neg (by rw [hs]; simp), ← hk])
  have e0 : w.cell? ⟨b0, off, none⟩ = some (.int .u8 k) := by rw [hk]; exact HAT.out.2.2 0 (by omega)
  have e1 : w.cell? ⟨b0, off + 1, none⟩ = some (.int .u8 cd) := by rw [hcd]; exact HAT.out.2.2 1 (by omega)
  have lb := cell_lt e0
  simp only at lb
  have HBG : Hid (mBegin xs = { m0 with kind := k, code := cd }) := Lib.hid (by rw [hk, hcd]; rfl)
  have HK := Lib.hid hk
  have HCD := Lib.hid hcd
  have HB := Lib.hid hb
  have HXS := Lib.hid hx
  have HS := Lib.hid hs
  have HI := Lib.hid (show IsB xs from hb.2)
  have HX := Lib.hid (MB.new w (.int .u8 0) (.int .i64 0) (.int .u8 0) (.int .u32 0) (.bool false) (.int .u8 0) (.int .u8 0) (.slice none 0 0) (.slice none 0 0))
  have B := Lib.hid (bel1 w (.cells #[.int .u8 0, .int .i64 0, .int .u8 0, .int .u32 0, .bool false, .int .u8 0, .int .u8 0, .slice none 0 0, .slice none 0 0] 27))
  have q7 : (0 : Int) < (n : Int) := by omega
  have q8 : (1 : Int) < (n : Int) := by omega
  have q9 : 0 < n := by omega
  have q10 : 1 < n := by omega
  have q11 : ¬ ((n : Int) < 8) := by omega
  have n8 : 8 ≤ n := by omega
  obtain rfl : k = 18 := hk.trans hkk
  have HKI : Hid (isKind 18 = true) := Lib.hid rfl
  clear hk hcd hb hx hs h8
  go_enter Try.func21, Try.ntmps21
  go_upto_region 5 with (go_at_call 40; refine (rOf2 (some ⟨b0, off, none⟩) n c xs _ HXS.out hn (bs_below HB.out B.out)).mono ?_; rintro e w1 ⟨rfl, hw1⟩; rw [HS.out]; have X1 : Hid (MB w1 w.heap.size (.int .u8 0) (.int .i64 0) (.int .u8 0) (.int .u32 0) (.bool false) (.int .u8 0) (.int .u8 0) (.slice none 0 0) (.slice none 0 0)) := Lib.hid (by rw [← hw1]; exact HX.out); have B1 : Hid (Below w.heap.size w w1) := Lib.hid (by rw [← hw1]; exact B.out); have S1 : Hid (w.heap.size < w1.heap.size) := Lib.hid X1.out.lt; have g0 := (B1.out.cell (p := ⟨b0, off, none⟩) lb).trans e0; have g1 := (B1.out.cell (p := ⟨b0, off + 1, none⟩) lb).trans e1; have lb1 : b0 < w1.heap.size := (by have := S1.out; omega); subst hw1)
  go_cut [4] (fun s4 wx => ∃ Y, s4 = .pointer (some ⟨Y, 0, none⟩) ∧ w.heap.size < Y ∧ MB wx Y (.int .u8 18) (.int .i64 0) (.int .u8 cd) (.int .u32 0) (.bool false) (.int .u8 0) (.int .u8 0) (.slice none 0 0) (.slice none 0 0) ∧ MB wx w.heap.size (.int .u8 0) (.int .i64 0) (.int .u8 0) (.int .u32 0) (.bool false) (.int .u8 0) (.int .u8 0) (.slice none 0 0) (.slice none 0 0) ∧ Below w.heap.size w wx)
  case first =>
    have S1 : Hid (w.heap.size < (w.alloc (.cells #[.int .u8 0, .int .i64 0, .int .u8 0, .int .u32 0, .bool false, .int .u8 0, .int .u8 0, .slice none 0 0, .slice none 0 0] 27)).heap.size) := Lib.hid HX.out.lt
    go_region
    all_goals
      go_wp2_with fail
      go_meet
      exact ⟨w.heap.size + 1, rfl, by omega, by have := MB.new (w.alloc (.cells #[.int .u8 0, .int .i64 0, .int .u8 0, .int .u32 0, .bool false, .int .u8 0, .int .u8 0, .slice none 0 0, .slice none 0 0] 27)) (.int .u8 18) (.int .i64 0) (.int .u8 cd) (.int .u32 0) (.bool false) (.int .u8 0) (.int .u8 0) (.slice none 0 0) (.slice none 0 0); rw [show (w.alloc (.cells #[.int .u8 0, .int .i64 0, .int .u8 0, .int .u32 0, .bool false, .int .u8 0, .int .u8 0, .slice none 0 0, .slice none 0 0] 27)).heap.size = w.heap.size + 1 by simp] at this; exact this, HX.out.keep (Below.heap_alloc _ _ _ S1.out), by first | exact B.out.alloc B.out.size _ | exact (B.out.alloc B.out.size _).drew⟩
  case rest =>
    obtain ⟨Y, rfl, hY, hmy, hmx, hbel⟩ := hcut
    have HY := Lib.hid hY
    have HMY := Lib.hid hmy
    have HMX := Lib.hid hmx
    have HBE := Lib.hid hbel
    have hbY : b0 ≠ Y := by omega
    have hXY : w.heap.size ≠ Y := by omega
    have g0 := (HBE.out.cell (p := ⟨b0, off, none⟩) lb).trans e0
    have g1 := (HBE.out.cell (p := ⟨b0, off + 1, none⟩) lb).trans e1
    clear hmy hmx hbel
    obtain ⟨gv, hg⟩ : ∃ gv, gv = ofv ((xs.drop 4).take 4) := ⟨_, rfl⟩
    have HG := Lib.hid hg
    have gb : 0 ≤ gv ∧ gv ≤ 4294967295 := by rw [hg]; exact ofv_at HI.out (by have := HXS.out; omega)
    have HGB := Lib.hid gb
    clear hg gb
    have HBG' : Hid (mBegin xs = { m0 with kind := 18, code := cd }) := HBG
    have DN : Hid (decN xs = ⟨⟨xs.drop 8, false⟩, false, ⟨18, 0, cd, gv, false, 0, 0, [], []⟩⟩) := Lib.hid (by rw [decN_g (by have := HXS.out; omega) (by rw [← HK.out]; omega), HBG'.out, ← HG.out]; rfl)
    have OK : Hid ((⟨18, 0, cd, gv, false, 0, 0, [], []⟩ : Msg).ok) := Lib.hid (by have h1 := byte_at HI.out 1; rw [← HCD.out] at h1; have h2 := HGB.out; simp [Msg.ok]; omega)
    go_wp2_with fail
    refine (rAt4 b0 off n c xs _ (HAT.out.below HBE.out) hn hnc n8).mono ?_
    rintro e w5 ⟨rfl, hb5⟩
    rw [← HG.out]
    have MY5 := HMY.out.below hb5 HMY.out.lt
    have MX5 := HMX.out.below hb5 HMX.out.lt
    obtain ⟨-, -, -, y3, -, -, -, -, -, yf⟩ := MY5.cells
    have yf3 := yf 3
    obtain ⟨W6, hW6⟩ : ∃ W6, w5.setCell ⟨Y, 3, none⟩ (.int .u32 gv) = W6 := ⟨_, rfl⟩
    have HW6 := Lib.hid hW6
    have my6 := MY5.set3 (.int .u32 gv)
    have mx6 := MX5.keep (w' := w5.setCell ⟨Y, 3, none⟩ (.int .u32 gv)) (set_other hXY)
    have be6 := bel_set (HBE.out.trans (hb5.mono HBE.out.size)) (by omega : w.heap.size ≤ Y) (.int .u32 gv) (j := 3)
    rw [hW6] at my6 mx6 be6
    have MY6 := Lib.hid my6
    have MX6 := Lib.hid mx6
    have BE6 := Lib.hid be6
    have UP6 : Hid (MsUp w.heap.size W6 ⟨18, 0, cd, gv, false, 0, 0, [], []⟩ none none) := Lib.hid (up_nil OK.out rfl rfl)
    clear MY5 MX5 yf hb5 my6 mx6 be6 hW6
    go_upto_region 39 with fail
    rw [HW6.out]
    clear y3 yf3 HW6 g0 g1
    have EE : Hid (decE xs = endE (decN xs)) := Lib.hid (by rw [HE.out, if_neg (by rw [HKI.out]; simp)])
    rw [DN.out] at EE
    obtain ⟨y, hy⟩ : ∃ y, y = right ⟨18, 0, cd, gv, false, 0, 0, [], []⟩ := ⟨_, rfl⟩
    have HRT := Lib.hid hy
    clear hy
    obtain ⟨y0, y1, y2, y3, y4, y5, y6, y7, y8, yf⟩ := MY6.out.cells
    have yf0 := yf 0
    have yf1 := yf 1
    have yf2 := yf 2
    have yf3 := yf 3
    have yf4 := yf 4
    have yf5 := yf 5
    have yf6 := yf 6
    have yf7 := yf 7
    have yf8 := yf 8
    clear yf
    by_cases hEn : 8 = n
    case neg =>
      have hlt : 8 < n := by have := n8; omega
      have ER := Lib.hid (end_more HXS.out EE.out rfl hlt)
      have hne : ((8 : Int) != (n : Int)) = true := by rw [bne_iff_ne]; omega
      go_wp2_with fail
      refine (rRight ⟨18, 0, cd, gv, false, 0, 0, [], []⟩ none none 0 0 _ UP6.out.self).mono ?_
      rintro e7 w7 ⟨rfl, hb7⟩
      rw [← HRT.out]
      have MX7 := Lib.hid (MX6.out.below hb7 MX6.out.lt)
      have MY7 := Lib.hid (MY6.out.below hb7 MY6.out.lt)
      have BE7 := Lib.hid (BE6.out.trans (hb7.mono BE6.out.size))
      have HB7 := Lib.hid hb7
      obtain ⟨z0, z1, z2, z3, z4, z5, z6, z7, z8, zf⟩ := MX7.out.cells
      have zf0 := zf 0
      have zf1 := zf 1
      have zf2 := zf 2
      have zf3 := zf 3
      have zf4 := zf 4
      have zf5 := zf 5
      have zf6 := zf 6
      have zf7 := zf 7
      have zf8 := zf 8
      clear zf
      obtain ⟨t0, t1, t2, t3, t4, t5, t6, t7, t8, -⟩ := MY7.out.cells
      clear hb7
      go_wp2_with fail
      refine ret_cell2 rfl rfl rfl ((MX7.out.store (.int .u8 0) (.int .i64 0) (.int .u8 0) (.int .u32 0) (.bool false) (.int .u8 0) (.int .u8 0) (.slice none 0 0) (.slice none 0 0)).load) ?_
      refine ⟨none, 0, none, 0, ?_, ?_, ?_⟩
      · rw [ER.out.1, ER.out.2]; rfl
      · rw [ER.out.2]; exact ms0 _
      · exact bel_store BE7.out (Nat.le_refl _) _ _ _ _ _ _ _ _ _
    have hne : ((8 : Int) != (n : Int)) = false := by rw [bne_eq_false_iff_eq]; omega
    have HEN := Lib.hid hEn
    clear hEn
    cases y with
    | false =>
      have ER := Lib.hid (end_not (n := n) EE.out rfl HRT.out.symm)
      go_wp2_with fail
      refine (rRight ⟨18, 0, cd, gv, false, 0, 0, [], []⟩ none none 0 0 _ UP6.out.self).mono ?_
      rintro e7 w7 ⟨rfl, hb7⟩
      rw [← HRT.out]
      have MX7 := Lib.hid (MX6.out.below hb7 MX6.out.lt)
      have MY7 := Lib.hid (MY6.out.below hb7 MY6.out.lt)
      have BE7 := Lib.hid (BE6.out.trans (hb7.mono BE6.out.size))
      have HB7 := Lib.hid hb7
      obtain ⟨z0, z1, z2, z3, z4, z5, z6, z7, z8, zf⟩ := MX7.out.cells
      have zf0 := zf 0
      have zf1 := zf 1
      have zf2 := zf 2
      have zf3 := zf 3
      have zf4 := zf 4
      have zf5 := zf 5
      have zf6 := zf 6
      have zf7 := zf 7
      have zf8 := zf 8
      clear zf
      obtain ⟨t0, t1, t2, t3, t4, t5, t6, t7, t8, -⟩ := MY7.out.cells
      clear hb7
      go_wp2_with fail
      refine ret_cell2 rfl rfl rfl ((MX7.out.store (.int .u8 0) (.int .i64 0) (.int .u8 0) (.int .u32 0) (.bool false) (.int .u8 0) (.int .u8 0) (.slice none 0 0) (.slice none 0 0)).load) ?_
      refine ⟨none, 0, none, 0, ?_, ?_, ?_⟩
      · rw [ER.out.1, ER.out.2]; rfl
      · rw [ER.out.2]; exact ms0 _
      · exact bel_store BE7.out (Nat.le_refl _) _ _ _ _ _ _ _ _ _
    | true =>
      have ER : Hid (decE xs = 0 ∧ decM xs = ⟨18, 0, cd, gv, false, 0, 0, [], []⟩) := Lib.hid (end_ok HXS.out EE.out DN.out (by rw [HEN.out]) rfl HRT.out.symm)
      go_wp2_with fail
      refine (rRight ⟨18, 0, cd, gv, false, 0, 0, [], []⟩ none none 0 0 _ UP6.out.self).mono ?_
      rintro e7 w7 ⟨rfl, hb7⟩
      rw [← HRT.out]
      have MX7 := Lib.hid (MX6.out.below hb7 MX6.out.lt)
      have MY7 := Lib.hid (MY6.out.below hb7 MY6.out.lt)
      have BE7 := Lib.hid (BE6.out.trans (hb7.mono BE6.out.size))
      have HB7 := Lib.hid hb7
      obtain ⟨z0, z1, z2, z3, z4, z5, z6, z7, z8, zf⟩ := MX7.out.cells
      have zf0 := zf 0
      have zf1 := zf 1
      have zf2 := zf 2
      have zf3 := zf 3
      have zf4 := zf 4
      have zf5 := zf 5
      have zf6 := zf 6
      have zf7 := zf 7
      have zf8 := zf 8
      clear zf
      obtain ⟨t0, t1, t2, t3, t4, t5, t6, t7, t8, -⟩ := MY7.out.cells
      clear hb7
      go_wp2_with fail
      refine ret_cell2 rfl rfl rfl ((MX7.out.store (.int .u8 18) (.int .i64 0) (.int .u8 cd) (.int .u32 gv) (.bool false) (.int .u8 0) (.int .u8 0) (.slice none 0 0) (.slice none 0 0)).load) ?_
      refine ⟨none, 0, none, 0, ?_, ?_, ?_⟩
      · rw [ER.out.1, ER.out.2]; rfl
      · rw [ER.out.2]
        exact UP6.out _ (by rw [set_size, set_size, set_size, set_size, set_size, set_size, set_size, set_size, set_size]; exact HB7.out.size) (fun q hq hq2 => (store_other (by omega) _ _ _ _ _ _ _ _ _).trans (HB7.out.block q hq2))
      · exact bel_store BE7.out (Nat.le_refl _) _ _ _ _ _ _ _ _ _

set_option maxRecDepth 100000 in
set_option maxHeartbeats 8000000 in
theorem rDec_22 (b0 off n c : Nat) (xs : List Int) (w : World) (hx : xs.length = n) (hn : n ≤ 1000000) (hnc : n ≤ c) (h8 : ¬ n < 8) (hb : Bs w (some ⟨b0, off, none⟩) xs) (hs : ofs xs = 0) (hkk : xs.getD 0 0 = 22) :
    Calls Try.prog 21 #[.slice (some ⟨b0, off, none⟩) n c] w fun e w' => ∃ sa sc ra rc, e = .returned (.tuple #[.agg #[.int .u8 (decM xs).kind, .int .i64 (decM xs).ver, .int .u8 (decM xs).code, .int .u32 (decM xs).grp, .bool (decM xs).quiet, .int .u8 (decM xs).rob, .int .u8 (decM xs).every, .slice sa (decM xs).srcs.length sc, .slice ra (decM xs).recs.length rc], .int .i64 (decE xs)]) ∧ Ms w' (decM xs) sa ra ∧ Below w.heap.size w w' := by
  have HAT := Lib.hid (show At w b0 off n xs from ⟨hx, hb.2, by
    intro j hj
    rcases hb.1 with rfl | ⟨b, o, e, hc⟩
    · simp at hx; omega
    · simp at e; obtain ⟨rfl, rfl⟩ := e; exact hc j (by omega)⟩)
  obtain ⟨k, hk⟩ : ∃ k, k = xs.getD 0 0 := ⟨_, rfl⟩
  obtain ⟨cd, hcd⟩ : ∃ cd, cd = xs.getD 1 0 := ⟨_, rfl⟩
  have HE : Hid (decE xs = if isKind k = false then 2 else endE (decN xs)) := Lib.hid (by unfold decE; rw [if_neg (by omega), if_neg (by rw [hs]; simp), ← hk])
  have e0 : w.cell? ⟨b0, off, none⟩ = some (.int .u8 k) := by rw [hk]; exact HAT.out.2.2 0 (by omega)
  have e1 : w.cell? ⟨b0, off + 1, none⟩ = some (.int .u8 cd) := by rw [hcd]; exact HAT.out.2.2 1 (by omega)
  have lb := cell_lt e0
  simp only at lb
  have HBG : Hid (mBegin xs = { m0 with kind := k, code := cd }) := Lib.hid (by rw [hk, hcd]; rfl)
  have HK := Lib.hid hk
  have HCD := Lib.hid hcd
  have HB := Lib.hid hb
  have HXS := Lib.hid hx
  have HS := Lib.hid hs
  have HI := Lib.hid (show IsB xs from hb.2)
  have HX := Lib.hid (MB.new w (.int .u8 0) (.int .i64 0) (.int .u8 0) (.int .u32 0) (.bool false) (.int .u8 0) (.int .u8 0) (.slice none 0 0) (.slice none 0 0))
  have B := Lib.hid (bel1 w (.cells #[.int .u8 0, .int .i64 0, .int .u8 0, .int .u32 0, .bool false, .int .u8 0, .int .u8 0, .slice none 0 0, .slice none 0 0] 27))
  have q7 : (0 : Int) < (n : Int) := by omega
  have q8 : (1 : Int) < (n : Int) := by omega
  have q9 : 0 < n := by omega
  have q10 : 1 < n := by omega
  have q11 : ¬ ((n : Int) < 8) := by omega
  have n8 : 8 ≤ n := by omega
  obtain rfl : k = 22 := hk.trans hkk
  have HKI : Hid (isKind 22 = true) := Lib.hid rfl
  clear hk hcd hb hx hs h8
  go_enter Try.func21, Try.ntmps21
  go_upto_region 5 with (go_at_call 40; refine (rOf2 (some ⟨b0, off, none⟩) n c xs _ HXS.out hn (bs_below HB.out B.out)).mono ?_; rintro e w1 ⟨rfl, hw1⟩; rw [HS.out]; have X1 : Hid (MB w1 w.heap.size (.int .u8 0) (.int .i64 0) (.int .u8 0) (.int .u32 0) (.bool false) (.int .u8 0) (.int .u8 0) (.slice none 0 0) (.slice none 0 0)) := Lib.hid (by rw [← hw1]; exact HX.out); have B1 : Hid (Below w.heap.size w w1) := Lib.hid (by rw [← hw1]; exact B.out); have S1 : Hid (w.heap.size < w1.heap.size) := Lib.hid X1.out.lt; have g0 := (B1.out.cell (p := ⟨b0, off, none⟩) lb).trans e0; have g1 := (B1.out.cell (p := ⟨b0, off + 1, none⟩) lb).trans e1; have lb1 : b0 < w1.heap.size := (by have := S1.out; omega); subst hw1)
  go_cut [4] (fun s4 wx => ∃ Y, s4 = .pointer (some ⟨Y, 0, none⟩) ∧ w.heap.size < Y ∧ MB wx Y (.int .u8 22) (.int .i64 0) (.int .u8 cd) (.int .u32 0) (.bool false) (.int .u8 0) (.int .u8 0) (.slice none 0 0) (.slice none 0 0) ∧ MB wx w.heap.size (.int .u8 0) (.int .i64 0) (.int .u8 0) (.int .u32 0) (.bool false) (.int .u8 0) (.int .u8 0) (.slice none 0 0) (.slice none 0 0) ∧ Below w.heap.size w wx)
  case first =>
    have S1 : Hid (w.heap.size < (w.alloc (.cells #[.int .u8 0, .int .i64 0, .int .u8 0, .int .u32 0, .bool false, .int .u8 0, .int .u8 0, .slice none 0 0, .slice none 0 0] 27)).heap.size) := Lib.hid HX.out.lt
    go_region
    all_goals
      go_wp2_with fail
      go_meet
      exact ⟨w.heap.size + 1, rfl, by omega, by have := MB.new (w.alloc (.cells #[.int .u8 0, .int .i64 0, .int .u8 0, .int .u32 0, .bool false, .int .u8 0, .int .u8 0, .slice none 0 0, .slice none 0 0] 27)) (.int .u8 22) (.int .i64 0) (.int .u8 cd) (.int .u32 0) (.bool false) (.int .u8 0) (.int .u8 0) (.slice none 0 0) (.slice none 0 0); rw [show (w.alloc (.cells #[.int .u8 0, .int .i64 0, .int .u8 0, .int .u32 0, .bool false, .int .u8 0, .int .u8 0, .slice none 0 0, .slice none 0 0] 27)).heap.size = w.heap.size + 1 by simp] at this; exact this, HX.out.keep (Below.heap_alloc _ _ _ S1.out), by first | exact B.out.alloc B.out.size _ | exact (B.out.alloc B.out.size _).drew⟩
  case rest =>
    obtain ⟨Y, rfl, hY, hmy, hmx, hbel⟩ := hcut
    have HY := Lib.hid hY
    have HMY := Lib.hid hmy
    have HMX := Lib.hid hmx
    have HBE := Lib.hid hbel
    have hbY : b0 ≠ Y := by omega
    have hXY : w.heap.size ≠ Y := by omega
    have g0 := (HBE.out.cell (p := ⟨b0, off, none⟩) lb).trans e0
    have g1 := (HBE.out.cell (p := ⟨b0, off + 1, none⟩) lb).trans e1
    clear hmy hmx hbel
    obtain ⟨gv, hg⟩ : ∃ gv, gv = ofv ((xs.drop 4).take 4) := ⟨_, rfl⟩
    have HG := Lib.hid hg
    have gb : 0 ≤ gv ∧ gv ≤ 4294967295 := by rw [hg]; exact ofv_at HI.out (by have := HXS.out; omega)
    have HGB := Lib.hid gb
    clear hg gb
    have HBG' : Hid (mBegin xs = { m0 with kind := 22, code := cd }) := HBG
    have DN : Hid (decN xs = ⟨⟨xs.drop 8, false⟩, false, ⟨22, 0, cd, gv, false, 0, 0, [], []⟩⟩) := Lib.hid (by rw [decN_g (by have := HXS.out; omega) (by rw [← HK.out]; omega), HBG'.out, ← HG.out]; rfl)
    have OK : Hid ((⟨22, 0, cd, gv, false, 0, 0, [], []⟩ : Msg).ok) := Lib.hid (by have h1 := byte_at HI.out 1; rw [← HCD.out] at h1; have h2 := HGB.out; simp [Msg.ok]; omega)
    go_wp2_with fail
    refine (rAt4 b0 off n c xs _ (HAT.out.below HBE.out) hn hnc n8).mono ?_
    rintro e w5 ⟨rfl, hb5⟩
    rw [← HG.out]
    have MY5 := HMY.out.below hb5 HMY.out.lt
    have MX5 := HMX.out.below hb5 HMX.out.lt
    obtain ⟨-, -, -, y3, -, -, -, -, -, yf⟩ := MY5.cells
    have yf3 := yf 3
    obtain ⟨W6, hW6⟩ : ∃ W6, w5.setCell ⟨Y, 3, none⟩ (.int .u32 gv) = W6 := ⟨_, rfl⟩
    have HW6 := Lib.hid hW6
    have my6 := MY5.set3 (.int .u32 gv)
    have mx6 := MX5.keep (w' := w5.setCell ⟨Y, 3, none⟩ (.int .u32 gv)) (set_other hXY)
    have be6 := bel_set (HBE.out.trans (hb5.mono HBE.out.size)) (by omega : w.heap.size ≤ Y) (.int .u32 gv) (j := 3)
    rw [hW6] at my6 mx6 be6
    have MY6 := Lib.hid my6
    have MX6 := Lib.hid mx6
    have BE6 := Lib.hid be6
    have UP6 : Hid (MsUp w.heap.size W6 ⟨22, 0, cd, gv, false, 0, 0, [], []⟩ none none) := Lib.hid (up_nil OK.out rfl rfl)
    clear MY5 MX5 yf hb5 my6 mx6 be6 hW6
    go_upto_region 39 with fail
    rw [HW6.out]
    clear y3 yf3 HW6 g0 g1
    have EE : Hid (decE xs = endE (decN xs)) := Lib.hid (by rw [HE.out, if_neg (by rw [HKI.out]; simp)])
    rw [DN.out] at EE
    obtain ⟨y, hy⟩ : ∃ y, y = right ⟨22, 0, cd, gv, false, 0, 0, [], []⟩ := ⟨_, rfl⟩
    have HRT := Lib.hid hy
    clear hy
    obtain ⟨y0, y1, y2, y3, y4, y5, y6, y7, y8, yf⟩ := MY6.out.cells
    have yf0 := yf 0
    have yf1 := yf 1
    have yf2 := yf 2
    have yf3 := yf 3
    have yf4 := yf 4
    have yf5 := yf 5
    have yf6 := yf 6
    have yf7 := yf 7
    have yf8 := yf 8
    clear yf
    by_cases hEn : 8 = n
    case neg =>
      have hlt : 8 < n := by have := n8; omega
      have ER := Lib.hid (end_more HXS.out EE.out rfl hlt)
      have hne : ((8 : Int) != (n : Int)) = true := by rw [bne_iff_ne]; omega
      go_wp2_with fail
      refine (rRight ⟨22, 0, cd, gv, false, 0, 0, [], []⟩ none none 0 0 _ UP6.out.self).mono ?_
      rintro e7 w7 ⟨rfl, hb7⟩
      rw [← HRT.out]
      have MX7 := Lib.hid (MX6.out.below hb7 MX6.out.lt)
      have MY7 := Lib.hid (MY6.out.below hb7 MY6.out.lt)
      have BE7 := Lib.hid (BE6.out.trans (hb7.mono BE6.out.size))
      have HB7 := Lib.hid hb7
      obtain ⟨z0, z1, z2, z3, z4, z5, z6, z7, z8, zf⟩ := MX7.out.cells
      have zf0 := zf 0
      have zf1 := zf 1
      have zf2 := zf 2
      have zf3 := zf 3
      have zf4 := zf 4
      have zf5 := zf 5
      have zf6 := zf 6
      have zf7 := zf 7
      have zf8 := zf 8
      clear zf
      obtain ⟨t0, t1, t2, t3, t4, t5, t6, t7, t8, -⟩ := MY7.out.cells
      clear hb7
      go_wp2_with fail
      refine ret_cell2 rfl rfl rfl ((MX7.out.store (.int .u8 0) (.int .i64 0) (.int .u8 0) (.int .u32 0) (.bool false) (.int .u8 0) (.int .u8 0) (.slice none 0 0) (.slice none 0 0)).load) ?_
      refine ⟨none, 0, none, 0, ?_, ?_, ?_⟩
      · rw [ER.out.1, ER.out.2]; rfl
      · rw [ER.out.2]; exact ms0 _
      · exact bel_store BE7.out (Nat.le_refl _) _ _ _ _ _ _ _ _ _
    have hne : ((8 : Int) != (n : Int)) = false := by rw [bne_eq_false_iff_eq]; omega
    have HEN := Lib.hid hEn
    clear hEn
    cases y with
    | false =>
      have ER := Lib.hid (end_not (n := n) EE.out rfl HRT.out.symm)
      go_wp2_with fail
      refine (rRight ⟨22, 0, cd, gv, false, 0, 0, [], []⟩ none none 0 0 _ UP6.out.self).mono ?_
      rintro e7 w7 ⟨rfl, hb7⟩
      rw [← HRT.out]
      have MX7 := Lib.hid (MX6.out.below hb7 MX6.out.lt)
      have MY7 := Lib.hid (MY6.out.below hb7 MY6.out.lt)
      have BE7 := Lib.hid (BE6.out.trans (hb7.mono BE6.out.size))
      have HB7 := Lib.hid hb7
      obtain ⟨z0, z1, z2, z3, z4, z5, z6, z7, z8, zf⟩ := MX7.out.cells
      have zf0 := zf 0
      have zf1 := zf 1
      have zf2 := zf 2
      have zf3 := zf 3
      have zf4 := zf 4
      have zf5 := zf 5
      have zf6 := zf 6
      have zf7 := zf 7
      have zf8 := zf 8
      clear zf
      obtain ⟨t0, t1, t2, t3, t4, t5, t6, t7, t8, -⟩ := MY7.out.cells
      clear hb7
      go_wp2_with fail
      refine ret_cell2 rfl rfl rfl ((MX7.out.store (.int .u8 0) (.int .i64 0) (.int .u8 0) (.int .u32 0) (.bool false) (.int .u8 0) (.int .u8 0) (.slice none 0 0) (.slice none 0 0)).load) ?_
      refine ⟨none, 0, none, 0, ?_, ?_, ?_⟩
      · rw [ER.out.1, ER.out.2]; rfl
      · rw [ER.out.2]; exact ms0 _
      · exact bel_store BE7.out (Nat.le_refl _) _ _ _ _ _ _ _ _ _
    | true =>
      have ER : Hid (decE xs = 0 ∧ decM xs = ⟨22, 0, cd, gv, false, 0, 0, [], []⟩) := Lib.hid (end_ok HXS.out EE.out DN.out (by rw [HEN.out]) rfl HRT.out.symm)
      go_wp2_with fail
      refine (rRight ⟨22, 0, cd, gv, false, 0, 0, [], []⟩ none none 0 0 _ UP6.out.self).mono ?_
      rintro e7 w7 ⟨rfl, hb7⟩
      rw [← HRT.out]
      have MX7 := Lib.hid (MX6.out.below hb7 MX6.out.lt)
      have MY7 := Lib.hid (MY6.out.below hb7 MY6.out.lt)
      have BE7 := Lib.hid (BE6.out.trans (hb7.mono BE6.out.size))
      have HB7 := Lib.hid hb7
      obtain ⟨z0, z1, z2, z3, z4, z5, z6, z7, z8, zf⟩ := MX7.out.cells
      have zf0 := zf 0
      have zf1 := zf 1
      have zf2 := zf 2
      have zf3 := zf 3
      have zf4 := zf 4
      have zf5 := zf 5
      have zf6 := zf 6
      have zf7 := zf 7
      have zf8 := zf 8
      clear zf
      obtain ⟨t0, t1, t2, t3, t4, t5, t6, t7, t8, -⟩ := MY7.out.cells
      clear hb7
      go_wp2_with fail
      refine ret_cell2 rfl rfl rfl ((MX7.out.store (.int .u8 22) (.int .i64 0) (.int .u8 cd) (.int .u32 gv) (.bool false) (.int .u8 0) (.int .u8 0) (.slice none 0 0) (.slice none 0 0)).load) ?_
      refine ⟨none, 0, none, 0, ?_, ?_, ?_⟩
      · rw [ER.out.1, ER.out.2]; rfl
      · rw [ER.out.2]
        exact UP6.out _ (by rw [set_size, set_size, set_size, set_size, set_size, set_size, set_size, set_size, set_size]; exact HB7.out.size) (fun q hq hq2 => (store_other (by omega) _ _ _ _ _ _ _ _ _).trans (HB7.out.block q hq2))
      · exact bel_store BE7.out (Nat.le_refl _) _ _ _ _ _ _ _ _ _

set_option maxRecDepth 100000 in
set_option maxHeartbeats 8000000 in
theorem rDec_23 (b0 off n c : Nat) (xs : List Int) (w : World) (hx : xs.length = n) (hn : n ≤ 1000000) (hnc : n ≤ c) (h8 : ¬ n < 8) (hb : Bs w (some ⟨b0, off, none⟩) xs) (hs : ofs xs = 0) (hkk : xs.getD 0 0 = 23) :
    Calls Try.prog 21 #[.slice (some ⟨b0, off, none⟩) n c] w fun e w' => ∃ sa sc ra rc, e = .returned (.tuple #[.agg #[.int .u8 (decM xs).kind, .int .i64 (decM xs).ver, .int .u8 (decM xs).code, .int .u32 (decM xs).grp, .bool (decM xs).quiet, .int .u8 (decM xs).rob, .int .u8 (decM xs).every, .slice sa (decM xs).srcs.length sc, .slice ra (decM xs).recs.length rc], .int .i64 (decE xs)]) ∧ Ms w' (decM xs) sa ra ∧ Below w.heap.size w w' := by
  have HAT := Lib.hid (show At w b0 off n xs from ⟨hx, hb.2, by
    intro j hj
    rcases hb.1 with rfl | ⟨b, o, e, hc⟩
    · simp at hx; omega
    · simp at e; obtain ⟨rfl, rfl⟩ := e; exact hc j (by omega)⟩)
  obtain ⟨k, hk⟩ : ∃ k, k = xs.getD 0 0 := ⟨_, rfl⟩
  obtain ⟨cd, hcd⟩ : ∃ cd, cd = xs.getD 1 0 := ⟨_, rfl⟩
  have HE : Hid (decE xs = if isKind k = false then 2 else endE (decN xs)) := Lib.hid (by unfold decE; rw [if_neg (by omega), if_neg (by rw [hs]; simp), ← hk])
  have e0 : w.cell? ⟨b0, off, none⟩ = some (.int .u8 k) := by rw [hk]; exact HAT.out.2.2 0 (by omega)
  have e1 : w.cell? ⟨b0, off + 1, none⟩ = some (.int .u8 cd) := by rw [hcd]; exact HAT.out.2.2 1 (by omega)
  have lb := cell_lt e0
  simp only at lb
  have HBG : Hid (mBegin xs = { m0 with kind := k, code := cd }) := Lib.hid (by rw [hk, hcd]; rfl)
  have HK := Lib.hid hk
  have HCD := Lib.hid hcd
  have HB := Lib.hid hb
  have HXS := Lib.hid hx
  have HS := Lib.hid hs
  have HI := Lib.hid (show IsB xs from hb.2)
  have HX := Lib.hid (MB.new w (.int .u8 0) (.int .i64 0) (.int .u8 0) (.int .u32 0) (.bool false) (.int .u8 0) (.int .u8 0) (.slice none 0 0) (.slice none 0 0))
  have B := Lib.hid (bel1 w (.cells #[.int .u8 0, .int .i64 0, .int .u8 0, .int .u32 0, .bool false, .int .u8 0, .int .u8 0, .slice none 0 0, .slice none 0 0] 27))
  have q7 : (0 : Int) < (n : Int) := by omega
  have q8 : (1 : Int) < (n : Int) := by omega
  have q9 : 0 < n := by omega
  have q10 : 1 < n := by omega
  have q11 : ¬ ((n : Int) < 8) := by omega
  have n8 : 8 ≤ n := by omega
  obtain rfl : k = 23 := hk.trans hkk
  have HKI : Hid (isKind 23 = true) := Lib.hid rfl
  clear hk hcd hb hx hs h8
  go_enter Try.func21, Try.ntmps21
  go_upto_region 5 with (go_at_call 40; refine (rOf2 (some ⟨b0, off, none⟩) n c xs _ HXS.out hn (bs_below HB.out B.out)).mono ?_; rintro e w1 ⟨rfl, hw1⟩; rw [HS.out]; have X1 : Hid (MB w1 w.heap.size (.int .u8 0) (.int .i64 0) (.int .u8 0) (.int .u32 0) (.bool false) (.int .u8 0) (.int .u8 0) (.slice none 0 0) (.slice none 0 0)) := Lib.hid (by rw [← hw1]; exact HX.out); have B1 : Hid (Below w.heap.size w w1) := Lib.hid (by rw [← hw1]; exact B.out); have S1 : Hid (w.heap.size < w1.heap.size) := Lib.hid X1.out.lt; have g0 := (B1.out.cell (p := ⟨b0, off, none⟩) lb).trans e0; have g1 := (B1.out.cell (p := ⟨b0, off + 1, none⟩) lb).trans e1; have lb1 : b0 < w1.heap.size := (by have := S1.out; omega); subst hw1)
  go_cut [4] (fun s4 wx => ∃ Y, s4 = .pointer (some ⟨Y, 0, none⟩) ∧ w.heap.size < Y ∧ MB wx Y (.int .u8 23) (.int .i64 0) (.int .u8 cd) (.int .u32 0) (.bool false) (.int .u8 0) (.int .u8 0) (.slice none 0 0) (.slice none 0 0) ∧ MB wx w.heap.size (.int .u8 0) (.int .i64 0) (.int .u8 0) (.int .u32 0) (.bool false) (.int .u8 0) (.int .u8 0) (.slice none 0 0) (.slice none 0 0) ∧ Below w.heap.size w wx)
  case first =>
    have S1 : Hid (w.heap.size < (w.alloc (.cells #[.int .u8 0, .int .i64 0, .int .u8 0, .int .u32 0, .bool false, .int .u8 0, .int .u8 0, .slice none 0 0, .slice none 0 0] 27)).heap.size) := Lib.hid HX.out.lt
    go_region
    all_goals
      go_wp2_with fail
      go_meet
      exact ⟨w.heap.size + 1, rfl, by omega, by have := MB.new (w.alloc (.cells #[.int .u8 0, .int .i64 0, .int .u8 0, .int .u32 0, .bool false, .int .u8 0, .int .u8 0, .slice none 0 0, .slice none 0 0] 27)) (.int .u8 23) (.int .i64 0) (.int .u8 cd) (.int .u32 0) (.bool false) (.int .u8 0) (.int .u8 0) (.slice none 0 0) (.slice none 0 0); rw [show (w.alloc (.cells #[.int .u8 0, .int .i64 0, .int .u8 0, .int .u32 0, .bool false, .int .u8 0, .int .u8 0, .slice none 0 0, .slice none 0 0] 27)).heap.size = w.heap.size + 1 by simp] at this; exact this, HX.out.keep (Below.heap_alloc _ _ _ S1.out), by first | exact B.out.alloc B.out.size _ | exact (B.out.alloc B.out.size _).drew⟩
  case rest =>
    obtain ⟨Y, rfl, hY, hmy, hmx, hbel⟩ := hcut
    have HY := Lib.hid hY
    have HMY := Lib.hid hmy
    have HMX := Lib.hid hmx
    have HBE := Lib.hid hbel
    have hbY : b0 ≠ Y := by omega
    have hXY : w.heap.size ≠ Y := by omega
    have g0 := (HBE.out.cell (p := ⟨b0, off, none⟩) lb).trans e0
    have g1 := (HBE.out.cell (p := ⟨b0, off + 1, none⟩) lb).trans e1
    clear hmy hmx hbel
    obtain ⟨gv, hg⟩ : ∃ gv, gv = ofv ((xs.drop 4).take 4) := ⟨_, rfl⟩
    have HG := Lib.hid hg
    have gb : 0 ≤ gv ∧ gv ≤ 4294967295 := by rw [hg]; exact ofv_at HI.out (by have := HXS.out; omega)
    have HGB := Lib.hid gb
    clear hg gb
    have HBG' : Hid (mBegin xs = { m0 with kind := 23, code := cd }) := HBG
    have DN : Hid (decN xs = ⟨⟨xs.drop 8, false⟩, false, ⟨23, 0, cd, gv, false, 0, 0, [], []⟩⟩) := Lib.hid (by rw [decN_g (by have := HXS.out; omega) (by rw [← HK.out]; omega), HBG'.out, ← HG.out]; rfl)
    have OK : Hid ((⟨23, 0, cd, gv, false, 0, 0, [], []⟩ : Msg).ok) := Lib.hid (by have h1 := byte_at HI.out 1; rw [← HCD.out] at h1; have h2 := HGB.out; simp [Msg.ok]; omega)
    go_wp2_with fail
    refine (rAt4 b0 off n c xs _ (HAT.out.below HBE.out) hn hnc n8).mono ?_
    rintro e w5 ⟨rfl, hb5⟩
    rw [← HG.out]
    have MY5 := HMY.out.below hb5 HMY.out.lt
    have MX5 := HMX.out.below hb5 HMX.out.lt
    obtain ⟨-, -, -, y3, -, -, -, -, -, yf⟩ := MY5.cells
    have yf3 := yf 3
    obtain ⟨W6, hW6⟩ : ∃ W6, w5.setCell ⟨Y, 3, none⟩ (.int .u32 gv) = W6 := ⟨_, rfl⟩
    have HW6 := Lib.hid hW6
    have my6 := MY5.set3 (.int .u32 gv)
    have mx6 := MX5.keep (w' := w5.setCell ⟨Y, 3, none⟩ (.int .u32 gv)) (set_other hXY)
    have be6 := bel_set (HBE.out.trans (hb5.mono HBE.out.size)) (by omega : w.heap.size ≤ Y) (.int .u32 gv) (j := 3)
    rw [hW6] at my6 mx6 be6
    have MY6 := Lib.hid my6
    have MX6 := Lib.hid mx6
    have BE6 := Lib.hid be6
    have UP6 : Hid (MsUp w.heap.size W6 ⟨23, 0, cd, gv, false, 0, 0, [], []⟩ none none) := Lib.hid (up_nil OK.out rfl rfl)
    clear MY5 MX5 yf hb5 my6 mx6 be6 hW6
    go_upto_region 39 with fail
    rw [HW6.out]
    clear y3 yf3 HW6 g0 g1
    have EE : Hid (decE xs = endE (decN xs)) := Lib.hid (by rw [HE.out, if_neg (by rw [HKI.out]; simp)])
    rw [DN.out] at EE
    obtain ⟨y, hy⟩ : ∃ y, y = right ⟨23, 0, cd, gv, false, 0, 0, [], []⟩ := ⟨_, rfl⟩
    have HRT := Lib.hid hy
    clear hy
    obtain ⟨y0, y1, y2, y3, y4, y5, y6, y7, y8, yf⟩ := MY6.out.cells
    have yf0 := yf 0
    have yf1 := yf 1
    have yf2 := yf 2
    have yf3 := yf 3
    have yf4 := yf 4
    have yf5 := yf 5
    have yf6 := yf 6
    have yf7 := yf 7
    have yf8 := yf 8
    clear yf
    by_cases hEn : 8 = n
    case neg =>
      have hlt : 8 < n := by have := n8; omega
      have ER := Lib.hid (end_more HXS.out EE.out rfl hlt)
      have hne : ((8 : Int) != (n : Int)) = true := by rw [bne_iff_ne]; omega
      go_wp2_with fail
      refine (rRight ⟨23, 0, cd, gv, false, 0, 0, [], []⟩ none none 0 0 _ UP6.out.self).mono ?_
      rintro e7 w7 ⟨rfl, hb7⟩
      rw [← HRT.out]
      have MX7 := Lib.hid (MX6.out.below hb7 MX6.out.lt)
      have MY7 := Lib.hid (MY6.out.below hb7 MY6.out.lt)
      have BE7 := Lib.hid (BE6.out.trans (hb7.mono BE6.out.size))
      have HB7 := Lib.hid hb7
      obtain ⟨z0, z1, z2, z3, z4, z5, z6, z7, z8, zf⟩ := MX7.out.cells
      have zf0 := zf 0
      have zf1 := zf 1
      have zf2 := zf 2
      have zf3 := zf 3
      have zf4 := zf 4
      have zf5 := zf 5
      have zf6 := zf 6
      have zf7 := zf 7
      have zf8 := zf 8
      clear zf
      obtain ⟨t0, t1, t2, t3, t4, t5, t6, t7, t8, -⟩ := MY7.out.cells
      clear hb7
      go_wp2_with fail
      refine ret_cell2 rfl rfl rfl ((MX7.out.store (.int .u8 0) (.int .i64 0) (.int .u8 0) (.int .u32 0) (.bool false) (.int .u8 0) (.int .u8 0) (.slice none 0 0) (.slice none 0 0)).load) ?_
      refine ⟨none, 0, none, 0, ?_, ?_, ?_⟩
      · rw [ER.out.1, ER.out.2]; rfl
      · rw [ER.out.2]; exact ms0 _
      · exact bel_store BE7.out (Nat.le_refl _) _ _ _ _ _ _ _ _ _
    have hne : ((8 : Int) != (n : Int)) = false := by rw [bne_eq_false_iff_eq]; omega
    have HEN := Lib.hid hEn
    clear hEn
    cases y with
    | false =>
      have ER := Lib.hid (end_not (n := n) EE.out rfl HRT.out.symm)
      go_wp2_with fail
      refine (rRight ⟨23, 0, cd, gv, false, 0, 0, [], []⟩ none none 0 0 _ UP6.out.self).mono ?_
      rintro e7 w7 ⟨rfl, hb7⟩
      rw [← HRT.out]
      have MX7 := Lib.hid (MX6.out.below hb7 MX6.out.lt)
      have MY7 := Lib.hid (MY6.out.below hb7 MY6.out.lt)
      have BE7 := Lib.hid (BE6.out.trans (hb7.mono BE6.out.size))
      have HB7 := Lib.hid hb7
      obtain ⟨z0, z1, z2, z3, z4, z5, z6, z7, z8, zf⟩ := MX7.out.cells
      have zf0 := zf 0
      have zf1 := zf 1
      have zf2 := zf 2
      have zf3 := zf 3
      have zf4 := zf 4
      have zf5 := zf 5
      have zf6 := zf 6
      have zf7 := zf 7
      have zf8 := zf 8
      clear zf
      obtain ⟨t0, t1, t2, t3, t4, t5, t6, t7, t8, -⟩ := MY7.out.cells
      clear hb7
      go_wp2_with fail
      refine ret_cell2 rfl rfl rfl ((MX7.out.store (.int .u8 0) (.int .i64 0) (.int .u8 0) (.int .u32 0) (.bool false) (.int .u8 0) (.int .u8 0) (.slice none 0 0) (.slice none 0 0)).load) ?_
      refine ⟨none, 0, none, 0, ?_, ?_, ?_⟩
      · rw [ER.out.1, ER.out.2]; rfl
      · rw [ER.out.2]; exact ms0 _
      · exact bel_store BE7.out (Nat.le_refl _) _ _ _ _ _ _ _ _ _
    | true =>
      have ER : Hid (decE xs = 0 ∧ decM xs = ⟨23, 0, cd, gv, false, 0, 0, [], []⟩) := Lib.hid (end_ok HXS.out EE.out DN.out (by rw [HEN.out]) rfl HRT.out.symm)
      go_wp2_with fail
      refine (rRight ⟨23, 0, cd, gv, false, 0, 0, [], []⟩ none none 0 0 _ UP6.out.self).mono ?_
      rintro e7 w7 ⟨rfl, hb7⟩
      rw [← HRT.out]
      have MX7 := Lib.hid (MX6.out.below hb7 MX6.out.lt)
      have MY7 := Lib.hid (MY6.out.below hb7 MY6.out.lt)
      have BE7 := Lib.hid (BE6.out.trans (hb7.mono BE6.out.size))
      have HB7 := Lib.hid hb7
      obtain ⟨z0, z1, z2, z3, z4, z5, z6, z7, z8, zf⟩ := MX7.out.cells
      have zf0 := zf 0
      have zf1 := zf 1
      have zf2 := zf 2
      have zf3 := zf 3
      have zf4 := zf 4
      have zf5 := zf 5
      have zf6 := zf 6
      have zf7 := zf 7
      have zf8 := zf 8
      clear zf
      obtain ⟨t0, t1, t2, t3, t4, t5, t6, t7, t8, -⟩ := MY7.out.cells
      clear hb7
      go_wp2_with fail
      refine ret_cell2 rfl rfl rfl ((MX7.out.store (.int .u8 23) (.int .i64 0) (.int .u8 cd) (.int .u32 gv) (.bool false) (.int .u8 0) (.int .u8 0) (.slice none 0 0) (.slice none 0 0)).load) ?_
      refine ⟨none, 0, none, 0, ?_, ?_, ?_⟩
      · rw [ER.out.1, ER.out.2]; rfl
      · rw [ER.out.2]
        exact UP6.out _ (by rw [set_size, set_size, set_size, set_size, set_size, set_size, set_size, set_size, set_size]; exact HB7.out.size) (fun q hq hq2 => (store_other (by omega) _ _ _ _ _ _ _ _ _).trans (HB7.out.block q hq2))
      · exact bel_store BE7.out (Nat.le_refl _) _ _ _ _ _ _ _ _ _
end Go.Proofs.Ytmcnanoamgkljaa
/- The message of bytes, the document's own answer: reports of version 3. -/
namespace Go.Proofs.Ytmcnanoamgkljaa
set_option linter.unusedVariables false
open Go.RowKit

set_option maxRecDepth 100000 in
set_option maxHeartbeats 8000000 in
theorem rDec_34n (b0 off n c : Nat) (xs : List Int) (w : World) (hx : xs.length = n) (hn : n ≤ 1000000) (hnc : n ≤ c) (h8 : ¬ n < 8) (hb : Bs w (some ⟨b0, off, none⟩) xs) (hs : ofs xs = 0) (hkk : xs.getD 0 0 = 34) (hrn : recsV xs (numV xs 6) 8 = none) :
    Calls Try.prog 21 #[.slice (some ⟨b0, off, none⟩) n c] w fun e w' => ∃ sa sc ra rc, e = .returned (.tuple #[.agg #[.int .u8 (decM xs).kind, .int .i64 (decM xs).ver, .int .u8 (decM xs).code, .int .u32 (decM xs).grp, .bool (decM xs).quiet, .int .u8 (decM xs).rob, .int .u8 (decM xs).every, .slice sa (decM xs).srcs.length sc, .slice ra (decM xs).recs.length rc], .int .i64 (decE xs)]) ∧ Ms w' (decM xs) sa ra ∧ Below w.heap.size w w' := by
  have HAT := Lib.hid (show At w b0 off n xs from ⟨hx, hb.2, by
    intro j hj
    rcases hb.1 with rfl | ⟨b, o, e, hc⟩
    · simp at hx; omega
    · simp at e; obtain ⟨rfl, rfl⟩ := e; exact hc j (by omega)⟩)
  obtain ⟨k, hk⟩ : ∃ k, k = xs.getD 0 0 := ⟨_, rfl⟩
  obtain ⟨cd, hcd⟩ : ∃ cd, cd = xs.getD 1 0 := ⟨_, rfl⟩
  have HE : Hid (decE xs = if isKind k = false then 2 else endE (decN xs)) := Lib.hid (by unfold decE; rw [if_neg (by omega), if_neg (by rw [hs]; simp), ← hk])
  have e0 : w.cell? ⟨b0, off, none⟩ = some (.int .u8 k) := by rw [hk]; exact HAT.out.2.2 0 (by omega)
  have e1 : w.cell? ⟨b0, off + 1, none⟩ = some (.int .u8 cd) := by rw [hcd]; exact HAT.out.2.2 1 (by omega)
  have lb := cell_lt e0
  simp only at lb
  have HBG : Hid (mBegin xs = { m0 with kind := k, code := cd }) := Lib.hid (by rw [hk, hcd]; rfl)
  have HK := Lib.hid hk
  have HCD := Lib.hid hcd
  have HB := Lib.hid hb
  have HXS := Lib.hid hx
  have HS := Lib.hid hs
  have HI := Lib.hid (show IsB xs from hb.2)
  have HX := Lib.hid (MB.new w (.int .u8 0) (.int .i64 0) (.int .u8 0) (.int .u32 0) (.bool false) (.int .u8 0) (.int .u8 0) (.slice none 0 0) (.slice none 0 0))
  have B := Lib.hid (bel1 w (.cells #[.int .u8 0, .int .i64 0, .int .u8 0, .int .u32 0, .bool false, .int .u8 0, .int .u8 0, .slice none 0 0, .slice none 0 0] 27))
  have q7 : (0 : Int) < (n : Int) := by omega
  have q8 : (1 : Int) < (n : Int) := by omega
  have q9 : 0 < n := by omega
  have q10 : 1 < n := by omega
  have q11 : ¬ ((n : Int) < 8) := by omega
  have n8 : 8 ≤ n := by omega
  obtain rfl : k = 34 := hk.trans hkk
  have HKI : Hid (isKind 34 = true) := Lib.hid rfl
  have HRN := Lib.hid hrn
  clear hrn
  clear hk hcd hb hx hs h8
  go_enter Try.func21, Try.ntmps21
  go_upto_region 5 with (go_at_call 40; refine (rOf2 (some ⟨b0, off, none⟩) n c xs _ HXS.out hn (bs_below HB.out B.out)).mono ?_; rintro e w1 ⟨rfl, hw1⟩; rw [HS.out]; have X1 : Hid (MB w1 w.heap.size (.int .u8 0) (.int .i64 0) (.int .u8 0) (.int .u32 0) (.bool false) (.int .u8 0) (.int .u8 0) (.slice none 0 0) (.slice none 0 0)) := Lib.hid (by rw [← hw1]; exact HX.out); have B1 : Hid (Below w.heap.size w w1) := Lib.hid (by rw [← hw1]; exact B.out); have S1 : Hid (w.heap.size < w1.heap.size) := Lib.hid X1.out.lt; have g0 := (B1.out.cell (p := ⟨b0, off, none⟩) lb).trans e0; have g1 := (B1.out.cell (p := ⟨b0, off + 1, none⟩) lb).trans e1; have lb1 : b0 < w1.heap.size := (by have := S1.out; omega); subst hw1)
  go_cut [4] (fun s4 wx => ∃ Y, s4 = .pointer (some ⟨Y, 0, none⟩) ∧ w.heap.size < Y ∧ MB wx Y (.int .u8 34) (.int .i64 0) (.int .u8 cd) (.int .u32 0) (.bool false) (.int .u8 0) (.int .u8 0) (.slice none 0 0) (.slice none 0 0) ∧ MB wx w.heap.size (.int .u8 0) (.int .i64 0) (.int .u8 0) (.int .u32 0) (.bool false) (.int .u8 0) (.int .u8 0) (.slice none 0 0) (.slice none 0 0) ∧ Below w.heap.size w wx)
  case first =>
    have S1 : Hid (w.heap.size < (w.alloc (.cells #[.int .u8 0, .int .i64 0, .int .u8 0, .int .u32 0, .bool false, .int .u8 0, .int .u8 0, .slice none 0 0, .slice none 0 0] 27)).heap.size) := Lib.hid HX.out.lt
    go_region
    all_goals
      go_wp2_with fail
      go_meet
      exact ⟨w.heap.size + 1, rfl, by omega, by have := MB.new (w.alloc (.cells #[.int .u8 0, .int .i64 0, .int .u8 0, .int .u32 0, .bool false, .int .u8 0, .int .u8 0, .slice none 0 0, .slice none 0 0] 27)) (.int .u8 34) (.int .i64 0) (.int .u8 cd) (.int .u32 0) (.bool false) (.int .u8 0) (.int .u8 0) (.slice none 0 0) (.slice none 0 0); rw [show (w.alloc (.cells #[.int .u8 0, .int .i64 0, .int .u8 0, .int .u32 0, .bool false, .int .u8 0, .int .u8 0, .slice none 0 0, .slice none 0 0] 27)).heap.size = w.heap.size + 1 by simp] at this; exact this, HX.out.keep (Below.heap_alloc _ _ _ S1.out), by first | exact B.out.alloc B.out.size _ | exact (B.out.alloc B.out.size _).drew⟩
  case rest =>
    obtain ⟨Y, rfl, hY, hmy, hmx, hbel⟩ := hcut
    have HY := Lib.hid hY
    have HMY := Lib.hid hmy
    have HMX := Lib.hid hmx
    have HBE := Lib.hid hbel
    have hbY : b0 ≠ Y := by omega
    have hXY : w.heap.size ≠ Y := by omega
    have g0 := (HBE.out.cell (p := ⟨b0, off, none⟩) lb).trans e0
    have g1 := (HBE.out.cell (p := ⟨b0, off + 1, none⟩) lb).trans e1
    clear hmy hmx hbel
    have ES := Lib.hid (end_short (by rw [HE.out, if_neg (by rw [HKI.out]; simp)]) (decN_rn (by have := HXS.out; omega) (by rw [← HK.out]) HRN.out))
    go_wp2_with fail
    refine (rRecords b0 off n c xs _ (HAT.out.below HBE.out) hn hnc n8).mono ?_
    rintro e w5 (⟨_, rfl, hb5⟩ | ⟨l, en, a, cap, cs, hr, _⟩)
    case inr => rw [HRN.out] at hr; cases hr
    have MX5 := Lib.hid (HMX.out.below hb5 HMX.out.lt)
    have BE5 := Lib.hid (HBE.out.trans (hb5.mono HBE.out.size))
    clear hb5
    obtain ⟨z0, z1, z2, z3, z4, z5, z6, z7, z8, zf⟩ := MX5.out.cells
    have zf0 := zf 0
    have zf1 := zf 1
    have zf2 := zf 2
    have zf3 := zf 3
    have zf4 := zf 4
    have zf5 := zf 5
    have zf6 := zf 6
    have zf7 := zf 7
    have zf8 := zf 8
    clear zf
    go_wp2
    refine ret_cell2 rfl rfl rfl ((MX5.out.store (.int .u8 0) (.int .i64 0) (.int .u8 0) (.int .u32 0) (.bool false) (.int .u8 0) (.int .u8 0) (.slice none 0 0) (.slice none 0 0)).load) ?_
    exact ⟨none, 0, none, 0, by rw [ES.out.1, ES.out.2]; rfl, by rw [ES.out.2]; exact ms0 _, bel_store BE5.out (Nat.le_refl _) _ _ _ _ _ _ _ _ _⟩

set_option maxRecDepth 100000 in
set_option maxHeartbeats 8000000 in
theorem rDec_34w (b0 off n c : Nat) (xs : List Int) (w : World) (hx : xs.length = n) (hn : n ≤ 1000000) (hnc : n ≤ c) (h8 : ¬ n < 8) (hb : Bs w (some ⟨b0, off, none⟩) xs) (hs : ofs xs = 0) (hkk : xs.getD 0 0 = 34) (l : List Rec) (en : Nat) (hrs : recsV xs (numV xs 6) 8 = some (l, en)) (hw : numV xs 4 ≠ 0) :
    Calls Try.prog 21 #[.slice (some ⟨b0, off, none⟩) n c] w fun e w' => ∃ sa sc ra rc, e = .returned (.tuple #[.agg #[.int .u8 (decM xs).kind, .int .i64 (decM xs).ver, .int .u8 (decM xs).code, .int .u32 (decM xs).grp, .bool (decM xs).quiet, .int .u8 (decM xs).rob, .int .u8 (decM xs).every, .slice sa (decM xs).srcs.length sc, .slice ra (decM xs).recs.length rc], .int .i64 (decE xs)]) ∧ Ms w' (decM xs) sa ra ∧ Below w.heap.size w w' := by
  have HAT := Lib.hid (show At w b0 off n xs from ⟨hx, hb.2, by
    intro j hj
    rcases hb.1 with rfl | ⟨b, o, e, hc⟩
    · simp at hx; omega
    · simp at e; obtain ⟨rfl, rfl⟩ := e; exact hc j (by omega)⟩)
  obtain ⟨k, hk⟩ : ∃ k, k = xs.getD 0 0 := ⟨_, rfl⟩
  obtain ⟨cd, hcd⟩ : ∃ cd, cd = xs.getD 1 0 := ⟨_, rfl⟩
  have HE : Hid (decE xs = if isKind k = false then 2 else endE (decN xs)) := Lib.hid (by unfold decE; rw [if_neg (by omega), if_neg (by rw [hs]; simp), ← hk])
  have e0 : w.cell? ⟨b0, off, none⟩ = some (.int .u8 k) := by rw [hk]; exact HAT.out.2.2 0 (by omega)
  have e1 : w.cell? ⟨b0, off + 1, none⟩ = some (.int .u8 cd) := by rw [hcd]; exact HAT.out.2.2 1 (by omega)
  have lb := cell_lt e0
  simp only at lb
  have HBG : Hid (mBegin xs = { m0 with kind := k, code := cd }) := Lib.hid (by rw [hk, hcd]; rfl)
  have HK := Lib.hid hk
  have HCD := Lib.hid hcd
  have HB := Lib.hid hb
  have HXS := Lib.hid hx
  have HS := Lib.hid hs
  have HI := Lib.hid (show IsB xs from hb.2)
  have HX := Lib.hid (MB.new w (.int .u8 0) (.int .i64 0) (.int .u8 0) (.int .u32 0) (.bool false) (.int .u8 0) (.int .u8 0) (.slice none 0 0) (.slice none 0 0))
  have B := Lib.hid (bel1 w (.cells #[.int .u8 0, .int .i64 0, .int .u8 0, .int .u32 0, .bool false, .int .u8 0, .int .u8 0, .slice none 0 0, .slice none 0 0] 27))
  have q7 : (0 : Int) < (n : Int) := by omega
  have q8 : (1 : Int) < (n : Int) := by omega
  have q9 : 0 < n := by omega
  have q10 : 1 < n := by omega
  have q11 : ¬ ((n : Int) < 8) := by omega
  have n8 : 8 ≤ n := by omega
  obtain rfl : k = 34 := hk.trans hkk
  have HKI : Hid (isKind 34 = true) := Lib.hid rfl
  have HRS := Lib.hid hrs
  have HW := Lib.hid hw
  clear hrs hw
  clear hk hcd hb hx hs h8
  go_enter Try.func21, Try.ntmps21
  go_upto_region 5 with (go_at_call 40; refine (rOf2 (some ⟨b0, off, none⟩) n c xs _ HXS.out hn (bs_below HB.out B.out)).mono ?_; rintro e w1 ⟨rfl, hw1⟩; rw [HS.out]; have X1 : Hid (MB w1 w.heap.size (.int .u8 0) (.int .i64 0) (.int .u8 0) (.int .u32 0) (.bool false) (.int .u8 0) (.int .u8 0) (.slice none 0 0) (.slice none 0 0)) := Lib.hid (by rw [← hw1]; exact HX.out); have B1 : Hid (Below w.heap.size w w1) := Lib.hid (by rw [← hw1]; exact B.out); have S1 : Hid (w.heap.size < w1.heap.size) := Lib.hid X1.out.lt; have g0 := (B1.out.cell (p := ⟨b0, off, none⟩) lb).trans e0; have g1 := (B1.out.cell (p := ⟨b0, off + 1, none⟩) lb).trans e1; have lb1 : b0 < w1.heap.size := (by have := S1.out; omega); subst hw1)
  go_cut [4] (fun s4 wx => ∃ Y, s4 = .pointer (some ⟨Y, 0, none⟩) ∧ w.heap.size < Y ∧ MB wx Y (.int .u8 34) (.int .i64 0) (.int .u8 cd) (.int .u32 0) (.bool false) (.int .u8 0) (.int .u8 0) (.slice none 0 0) (.slice none 0 0) ∧ MB wx w.heap.size (.int .u8 0) (.int .i64 0) (.int .u8 0) (.int .u32 0) (.bool false) (.int .u8 0) (.int .u8 0) (.slice none 0 0) (.slice none 0 0) ∧ Below w.heap.size w wx)
  case first =>
    have S1 : Hid (w.heap.size < (w.alloc (.cells #[.int .u8 0, .int .i64 0, .int .u8 0, .int .u32 0, .bool false, .int .u8 0, .int .u8 0, .slice none 0 0, .slice none 0 0] 27)).heap.size) := Lib.hid HX.out.lt
    go_region
    all_goals
      go_wp2_with fail
      go_meet
      exact ⟨w.heap.size + 1, rfl, by omega, by have := MB.new (w.alloc (.cells #[.int .u8 0, .int .i64 0, .int .u8 0, .int .u32 0, .bool false, .int .u8 0, .int .u8 0, .slice none 0 0, .slice none 0 0] 27)) (.int .u8 34) (.int .i64 0) (.int .u8 cd) (.int .u32 0) (.bool false) (.int .u8 0) (.int .u8 0) (.slice none 0 0) (.slice none 0 0); rw [show (w.alloc (.cells #[.int .u8 0, .int .i64 0, .int .u8 0, .int .u32 0, .bool false, .int .u8 0, .int .u8 0, .slice none 0 0, .slice none 0 0] 27)).heap.size = w.heap.size + 1 by simp] at this; exact this, HX.out.keep (Below.heap_alloc _ _ _ S1.out), by first | exact B.out.alloc B.out.size _ | exact (B.out.alloc B.out.size _).drew⟩
  case rest =>
    obtain ⟨Y, rfl, hY, hmy, hmx, hbel⟩ := hcut
    have HY := Lib.hid hY
    have HMY := Lib.hid hmy
    have HMX := Lib.hid hmx
    have HBE := Lib.hid hbel
    have hbY : b0 ≠ Y := by omega
    have hXY : w.heap.size ≠ Y := by omega
    have g0 := (HBE.out.cell (p := ⟨b0, off, none⟩) lb).trans e0
    have g1 := (HBE.out.cell (p := ⟨b0, off + 1, none⟩) lb).trans e1
    clear hmy hmx hbel
    have DN := Lib.hid (decN_r (by have := HXS.out; omega) (by rw [← HK.out]) HRS.out)
    have ES : Hid (decE xs = 2 ∧ decM xs = m0) := Lib.hid (by
      have h2 : decE xs = 2 := by
        rw [HE.out, if_neg (by rw [HKI.out]; simp), DN.out.1]
        unfold endE
        rw [if_neg (by simp), if_pos (.inr (.inl (by simp only; rw [decide_eq_true_eq]; exact HW.out)))]
      exact ⟨h2, by unfold decM; rw [h2]; rfl⟩)
    obtain ⟨f4, hf4⟩ : ∃ f4, f4 = numV xs 4 := ⟨_, rfl⟩
    have HF4 := Lib.hid hf4
    have hne4 : ((f4 : Int) != 0) = true := by rw [bne_iff_ne]; have := HW.out; omega
    clear hf4
    go_wp2_with fail
    refine (rRecords b0 off n c xs _ (HAT.out.below HBE.out) hn hnc n8).mono ?_
    rintro e w5 (⟨hr, _⟩ | ⟨l', en', a, cap, cs, hr, hen, rfl, hrow, hb5⟩)
    case inl => rw [HRS.out] at hr; cases hr
    have MX5 := Lib.hid (HMX.out.below hb5 HMX.out.lt)
    have BE5 := Lib.hid (HBE.out.trans (hb5.mono HBE.out.size))
    clear hb5 hrow
    go_wp2_with fail
    refine (rTwo4 b0 off n c xs _ (HAT.out.below BE5.out) hn n8).mono ?_
    rintro e w6 ⟨rfl, hb6⟩
    rw [← HF4.out]
    have MX6 := Lib.hid (MX5.out.below hb6 MX5.out.lt)
    have BE6 := Lib.hid (BE5.out.trans (hb6.mono BE5.out.size))
    clear hb6
    obtain ⟨z0, z1, z2, z3, z4, z5, z6, z7, z8, zf⟩ := MX6.out.cells
    have zf0 := zf 0
    have zf1 := zf 1
    have zf2 := zf 2
    have zf3 := zf 3
    have zf4 := zf 4
    have zf5 := zf 5
    have zf6 := zf 6
    have zf7 := zf 7
    have zf8 := zf 8
    clear zf
    go_wp2
    refine ret_cell2 rfl rfl rfl ((MX6.out.store (.int .u8 0) (.int .i64 0) (.int .u8 0) (.int .u32 0) (.bool false) (.int .u8 0) (.int .u8 0) (.slice none 0 0) (.slice none 0 0)).load) ?_
    exact ⟨none, 0, none, 0, by rw [ES.out.1, ES.out.2]; rfl, by rw [ES.out.2]; exact ms0 _, bel_store BE6.out (Nat.le_refl _) _ _ _ _ _ _ _ _ _⟩

set_option maxRecDepth 100000 in
set_option maxHeartbeats 8000000 in
theorem rDec_34 (b0 off n c : Nat) (xs : List Int) (w : World) (hx : xs.length = n) (hn : n ≤ 1000000) (hnc : n ≤ c) (h8 : ¬ n < 8) (hb : Bs w (some ⟨b0, off, none⟩) xs) (hs : ofs xs = 0) (hkk : xs.getD 0 0 = 34) (l : List Rec) (en : Nat) (hrs : recsV xs (numV xs 6) 8 = some (l, en)) (hw : numV xs 4 = 0) :
    Calls Try.prog 21 #[.slice (some ⟨b0, off, none⟩) n c] w fun e w' => ∃ sa sc ra rc, e = .returned (.tuple #[.agg #[.int .u8 (decM xs).kind, .int .i64 (decM xs).ver, .int .u8 (decM xs).code, .int .u32 (decM xs).grp, .bool (decM xs).quiet, .int .u8 (decM xs).rob, .int .u8 (decM xs).every, .slice sa (decM xs).srcs.length sc, .slice ra (decM xs).recs.length rc], .int .i64 (decE xs)]) ∧ Ms w' (decM xs) sa ra ∧ Below w.heap.size w w' := by
  have HAT := Lib.hid (show At w b0 off n xs from ⟨hx, hb.2, by
    intro j hj
    rcases hb.1 with rfl | ⟨b, o, e, hc⟩
    · simp at hx; omega
    · simp at e; obtain ⟨rfl, rfl⟩ := e; exact hc j (by omega)⟩)
  obtain ⟨k, hk⟩ : ∃ k, k = xs.getD 0 0 := ⟨_, rfl⟩
  obtain ⟨cd, hcd⟩ : ∃ cd, cd = xs.getD 1 0 := ⟨_, rfl⟩
  have HE : Hid (decE xs = if isKind k = false then 2 else endE (decN xs)) := Lib.hid (by unfold decE; rw [if_neg (by omega), if_neg (by rw [hs]; simp), ← hk])
  have e0 : w.cell? ⟨b0, off, none⟩ = some (.int .u8 k) := by rw [hk]; exact HAT.out.2.2 0 (by omega)
  have e1 : w.cell? ⟨b0, off + 1, none⟩ = some (.int .u8 cd) := by rw [hcd]; exact HAT.out.2.2 1 (by omega)
  have lb := cell_lt e0
  simp only at lb
  have HBG : Hid (mBegin xs = { m0 with kind := k, code := cd }) := Lib.hid (by rw [hk, hcd]; rfl)
  have HK := Lib.hid hk
  have HCD := Lib.hid hcd
  have HB := Lib.hid hb
  have HXS := Lib.hid hx
  have HS := Lib.hid hs
  have HI := Lib.hid (show IsB xs from hb.2)
  have HX := Lib.hid (MB.new w (.int .u8 0) (.int .i64 0) (.int .u8 0) (.int .u32 0) (.bool false) (.int .u8 0) (.int .u8 0) (.slice none 0 0) (.slice none 0 0))
  have B := Lib.hid (bel1 w (.cells #[.int .u8 0, .int .i64 0, .int .u8 0, .int .u32 0, .bool false, .int .u8 0, .int .u8 0, .slice none 0 0, .slice none 0 0] 27))
  have q7 : (0 : Int) < (n : Int) := by omega
  have q8 : (1 : Int) < (n : Int) := by omega
  have q9 : 0 < n := by omega
  have q10 : 1 < n := by omega
  have q11 : ¬ ((n : Int) < 8) := by omega
  have n8 : 8 ≤ n := by omega
  obtain rfl : k = 34 := hk.trans hkk
  have HKI : Hid (isKind 34 = true) := Lib.hid rfl
  have HRS := Lib.hid hrs
  have HW := Lib.hid hw
  clear hrs hw
  clear hk hcd hb hx hs h8
  go_enter Try.func21, Try.ntmps21
  go_upto_region 5 with (go_at_call 40; refine (rOf2 (some ⟨b0, off, none⟩) n c xs _ HXS.out hn (bs_below HB.out B.out)).mono ?_; rintro e w1 ⟨rfl, hw1⟩; rw [HS.out]; have X1 : Hid (MB w1 w.heap.size (.int .u8 0) (.int .i64 0) (.int .u8 0) (.int .u32 0) (.bool false) (.int .u8 0) (.int .u8 0) (.slice none 0 0) (.slice none 0 0)) := Lib.hid (by rw [← hw1]; exact HX.out); have B1 : Hid (Below w.heap.size w w1) := Lib.hid (by rw [← hw1]; exact B.out); have S1 : Hid (w.heap.size < w1.heap.size) := Lib.hid X1.out.lt; have g0 := (B1.out.cell (p := ⟨b0, off, none⟩) lb).trans e0; have g1 := (B1.out.cell (p := ⟨b0, off + 1, none⟩) lb).trans e1; have lb1 : b0 < w1.heap.size := (by have := S1.out; omega); subst hw1)
  go_cut [4] (fun s4 wx => ∃ Y, s4 = .pointer (some ⟨Y, 0, none⟩) ∧ w.heap.size < Y ∧ MB wx Y (.int .u8 34) (.int .i64 0) (.int .u8 cd) (.int .u32 0) (.bool false) (.int .u8 0) (.int .u8 0) (.slice none 0 0) (.slice none 0 0) ∧ MB wx w.heap.size (.int .u8 0) (.int .i64 0) (.int .u8 0) (.int .u32 0) (.bool false) (.int .u8 0) (.int .u8 0) (.slice none 0 0) (.slice none 0 0) ∧ Below w.heap.size w wx)
  case first =>
    have S1 : Hid (w.heap.size < (w.alloc (.cells #[.int .u8 0, .int .i64 0, .int .u8 0, .int .u32 0, .bool false, .int .u8 0, .int .u8 0, .slice none 0 0, .slice none 0 0] 27)).heap.size) := Lib.hid HX.out.lt
    go_region
    all_goals
      go_wp2_with fail
      go_meet
      exact ⟨w.heap.size + 1, rfl, by omega, by have := MB.new (w.alloc (.cells #[.int .u8 0, .int .i64 0, .int .u8 0, .int .u32 0, .bool false, .int .u8 0, .int .u8 0, .slice none 0 0, .slice none 0 0] 27)) (.int .u8 34) (.int .i64 0) (.int .u8 cd) (.int .u32 0) (.bool false) (.int .u8 0) (.int .u8 0) (.slice none 0 0) (.slice none 0 0); rw [show (w.alloc (.cells #[.int .u8 0, .int .i64 0, .int .u8 0, .int .u32 0, .bool false, .int .u8 0, .int .u8 0, .slice none 0 0, .slice none 0 0] 27)).heap.size = w.heap.size + 1 by simp] at this; exact this, HX.out.keep (Below.heap_alloc _ _ _ S1.out), by first | exact B.out.alloc B.out.size _ | exact (B.out.alloc B.out.size _).drew⟩
  case rest =>
    obtain ⟨Y, rfl, hY, hmy, hmx, hbel⟩ := hcut
    have HY := Lib.hid hY
    have HMY := Lib.hid hmy
    have HMX := Lib.hid hmx
    have HBE := Lib.hid hbel
    have hbY : b0 ≠ Y := by omega
    have hXY : w.heap.size ≠ Y := by omega
    have g0 := (HBE.out.cell (p := ⟨b0, off, none⟩) lb).trans e0
    have g1 := (HBE.out.cell (p := ⟨b0, off + 1, none⟩) lb).trans e1
    clear hmy hmx hbel
    have DN0 := Lib.hid (decN_r (by have := HXS.out; omega) (by rw [← HK.out]) HRS.out)
    have DN : Hid (decN xs = ⟨⟨xs.drop en, false⟩, false, ⟨34, 0, cd, 0, false, 0, 0, [], l⟩⟩) := Lib.hid (by rw [DN0.out.1, HBG.out, HW.out]; rfl)
    have LE : en ≤ n := by have := DN0.out.2; have := HXS.out; omega
    have FT : Hid (Fit (decN xs)) := Lib.hid (by
      have h := fit_report HI.out (s := ⟨xs.drop 4, false⟩) (isB_drop HI.out 4)
      have hk34 : (mBegin xs).kind = 34 := HK.out.symm
      unfold decN goOn
      rw [if_neg (by omega), if_pos hk34]
      exact h)
    rw [DN.out] at FT
    obtain ⟨f4, hf4⟩ : ∃ f4, f4 = numV xs 4 := ⟨_, rfl⟩
    have HF4 := Lib.hid hf4
    obtain rfl : f4 = 0 := by have := HW.out; omega
    clear hf4
    go_wp2_with fail
    refine (rRecords b0 off n c xs _ (HAT.out.below HBE.out) hn hnc n8).mono ?_
    rintro e w5 (⟨hr, _⟩ | ⟨l', en', a, cap, cs, hr, hen, rfl, hrow, hb5⟩)
    case inl => rw [HRS.out] at hr; cases hr
    rw [HRS.out] at hr
    obtain ⟨rfl, rfl⟩ : l = l' ∧ en = en' := by simpa using hr
    have MX5 := Lib.hid (HMX.out.below hb5 HMX.out.lt)
    have MY5 := Lib.hid (HMY.out.below hb5 HMY.out.lt)
    have BE5 := Lib.hid (HBE.out.trans (hb5.mono HBE.out.size))
    have RW5 := Lib.hid hrow
    have WC : Hid (Y < wc.heap.size) := Lib.hid HMY.out.lt
    clear hb5 hrow hr hen
    go_wp2_with fail
    refine (rTwo4 b0 off n c xs _ (HAT.out.below BE5.out) hn n8).mono ?_
    rintro e w6 ⟨rfl, hb6⟩
    rw [← HF4.out]
    have MX6 := MX5.out.below hb6 MX5.out.lt
    have MY6 := MY5.out.below hb6 MY5.out.lt
    have BE6 := BE5.out.trans (hb6.mono BE5.out.size)
    have RW6 := RW5.out.keep fun q _ hq => hb6.block q hq
    obtain ⟨-, -, -, -, -, -, -, -, y8, yf⟩ := MY6.cells
    have yf8 := yf 8
    obtain ⟨W7, hW7⟩ : ∃ W7, w6.setCell ⟨Y, 8, none⟩ (.slice a l.length cap) = W7 := ⟨_, rfl⟩
    have HW7 := Lib.hid hW7
    have my7 := MY6.set8 (.slice a l.length cap)
    have mx7 := MX6.keep (w' := w6.setCell ⟨Y, 8, none⟩ (.slice a l.length cap)) (set_other hXY)
    have be7 := bel_set BE6 (by omega : w.heap.size ≤ Y) (.slice a l.length cap) (j := 8)
    have rw7 := RW6.keep (w' := w6.setCell ⟨Y, 8, none⟩ (.slice a l.length cap)) fun q hB _ => set_other (by have := WC.out; omega)
    rw [hW7] at my7 mx7 be7 rw7
    have MY7' := Lib.hid my7
    have MX7' := Lib.hid mx7
    have BE7' := Lib.hid be7
    have UP7 : Hid (MsUp w.heap.size W7 ⟨34, 0, cd, 0, false, 0, 0, [], l⟩ none a) := Lib.hid (up_recs FT.out.1 rfl rw7 (by have := WC.out; omega) FT.out.2.2)
    clear MY6 MX6 BE6 RW6 yf hb6 my7 mx7 be7 rw7 hW7
    go_upto_region 39 with fail
    rw [HW7.out]
    clear y8 yf8 HW7 g0 g1
    have EE : Hid (decE xs = endE (decN xs)) := Lib.hid (by rw [HE.out, if_neg (by rw [HKI.out]; simp)])
    rw [DN.out] at EE
    obtain ⟨y, hy⟩ : ∃ y, y = right ⟨34, 0, cd, 0, false, 0, 0, [], l⟩ := ⟨_, rfl⟩
    have HRT := Lib.hid hy
    clear hy
    obtain ⟨y0, y1, y2, y3, y4, y5, y6, y7, y8, yf⟩ := MY7'.out.cells
    have yf0 := yf 0
    have yf1 := yf 1
    have yf2 := yf 2
    have yf3 := yf 3
    have yf4 := yf 4
    have yf5 := yf 5
    have yf6 := yf 6
    have yf7 := yf 7
    have yf8 := yf 8
    clear yf
    by_cases hEn : en = n
    case neg =>
      have hlt : en < n := by have := LE; omega
      have ER := Lib.hid (end_more HXS.out EE.out rfl hlt)
      have hne : ((en : Int) != (n : Int)) = true := by rw [bne_iff_ne]; omega
      go_wp2_with fail
      refine (rRight ⟨34, 0, cd, 0, false, 0, 0, [], l⟩ none a 0 cap _ UP7.out.self).mono ?_
      rintro e7 w7 ⟨rfl, hb7⟩
      rw [← HRT.out]
      have MX7 := Lib.hid (MX7'.out.below hb7 MX7'.out.lt)
      have MY7 := Lib.hid (MY7'.out.below hb7 MY7'.out.lt)
      have BE7 := Lib.hid (BE7'.out.trans (hb7.mono BE7'.out.size))
      have HB7 := Lib.hid hb7
      obtain ⟨z0, z1, z2, z3, z4, z5, z6, z7, z8, zf⟩ := MX7.out.cells
      have zf0 := zf 0
      have zf1 := zf 1
      have zf2 := zf 2
      have zf3 := zf 3
      have zf4 := zf 4
      have zf5 := zf 5
      have zf6 := zf 6
      have zf7 := zf 7
      have zf8 := zf 8
      clear zf
      obtain ⟨t0, t1, t2, t3, t4, t5, t6, t7, t8, -⟩ := MY7.out.cells
      clear hb7
      go_wp2_with fail
      refine ret_cell2 rfl rfl rfl ((MX7.out.store (.int .u8 0) (.int .i64 0) (.int .u8 0) (.int .u32 0) (.bool false) (.int .u8 0) (.int .u8 0) (.slice none 0 0) (.slice none 0 0)).load) ?_
      refine ⟨none, 0, none, 0, ?_, ?_, ?_⟩
      · rw [ER.out.1, ER.out.2]; rfl
      · rw [ER.out.2]; exact ms0 _
      · exact bel_store BE7.out (Nat.le_refl _) _ _ _ _ _ _ _ _ _
    have hne : ((en : Int) != (n : Int)) = false := by rw [bne_eq_false_iff_eq]; omega
    have HEN := Lib.hid hEn
    clear hEn
    cases y with
    | false =>
      have ER := Lib.hid (end_not (n := n) EE.out rfl HRT.out.symm)
      go_wp2_with fail
      refine (rRight ⟨34, 0, cd, 0, false, 0, 0, [], l⟩ none a 0 cap _ UP7.out.self).mono ?_
      rintro e7 w7 ⟨rfl, hb7⟩
      rw [← HRT.out]
      have MX7 := Lib.hid (MX7'.out.below hb7 MX7'.out.lt)
      have MY7 := Lib.hid (MY7'.out.below hb7 MY7'.out.lt)
      have BE7 := Lib.hid (BE7'.out.trans (hb7.mono BE7'.out.size))
      have HB7 := Lib.hid hb7
      obtain ⟨z0, z1, z2, z3, z4, z5, z6, z7, z8, zf⟩ := MX7.out.cells
      have zf0 := zf 0
      have zf1 := zf 1
      have zf2 := zf 2
      have zf3 := zf 3
      have zf4 := zf 4
      have zf5 := zf 5
      have zf6 := zf 6
      have zf7 := zf 7
      have zf8 := zf 8
      clear zf
      obtain ⟨t0, t1, t2, t3, t4, t5, t6, t7, t8, -⟩ := MY7.out.cells
      clear hb7
      go_wp2_with fail
      refine ret_cell2 rfl rfl rfl ((MX7.out.store (.int .u8 0) (.int .i64 0) (.int .u8 0) (.int .u32 0) (.bool false) (.int .u8 0) (.int .u8 0) (.slice none 0 0) (.slice none 0 0)).load) ?_
      refine ⟨none, 0, none, 0, ?_, ?_, ?_⟩
      · rw [ER.out.1, ER.out.2]; rfl
      · rw [ER.out.2]; exact ms0 _
      · exact bel_store BE7.out (Nat.le_refl _) _ _ _ _ _ _ _ _ _
    | true =>
      have ER : Hid (decE xs = 0 ∧ decM xs = ⟨34, 0, cd, 0, false, 0, 0, [], l⟩) := Lib.hid (end_ok HXS.out EE.out DN.out (by rw [HEN.out]) rfl HRT.out.symm)
      go_wp2_with fail
      refine (rRight ⟨34, 0, cd, 0, false, 0, 0, [], l⟩ none a 0 cap _ UP7.out.self).mono ?_
      rintro e7 w7 ⟨rfl, hb7⟩
      rw [← HRT.out]
      have MX7 := Lib.hid (MX7'.out.below hb7 MX7'.out.lt)
      have MY7 := Lib.hid (MY7'.out.below hb7 MY7'.out.lt)
      have BE7 := Lib.hid (BE7'.out.trans (hb7.mono BE7'.out.size))
      have HB7 := Lib.hid hb7
      obtain ⟨z0, z1, z2, z3, z4, z5, z6, z7, z8, zf⟩ := MX7.out.cells
      have zf0 := zf 0
      have zf1 := zf 1
      have zf2 := zf 2
      have zf3 := zf 3
      have zf4 := zf 4
      have zf5 := zf 5
      have zf6 := zf 6
      have zf7 := zf 7
      have zf8 := zf 8
      clear zf
      obtain ⟨t0, t1, t2, t3, t4, t5, t6, t7, t8, -⟩ := MY7.out.cells
      clear hb7
      go_wp2_with fail
      refine ret_cell2 rfl rfl rfl ((MX7.out.store (.int .u8 34) (.int .i64 0) (.int .u8 cd) (.int .u32 0) (.bool false) (.int .u8 0) (.int .u8 0) (.slice none 0 0) (.slice a l.length cap)).load) ?_
      refine ⟨none, 0, a, cap, ?_, ?_, ?_⟩
      · rw [ER.out.1, ER.out.2]; rfl
      · rw [ER.out.2]
        exact UP7.out _ (by rw [set_size, set_size, set_size, set_size, set_size, set_size, set_size, set_size, set_size]; exact HB7.out.size) (fun q hq hq2 => (store_other (by omega) _ _ _ _ _ _ _ _ _).trans (HB7.out.block q hq2))
      · exact bel_store BE7.out (Nat.le_refl _) _ _ _ _ _ _ _ _ _

set_option maxRecDepth 100000 in
set_option maxHeartbeats 8000000 in
theorem rDec_no (b0 off n c : Nat) (xs : List Int) (w : World) (hx : xs.length = n) (hn : n ≤ 1000000) (hnc : n ≤ c) (h8 : ¬ n < 8) (hb : Bs w (some ⟨b0, off, none⟩) xs) (hs : ofs xs = 0) (hkk : isKind (xs.getD 0 0) = false) :
    Calls Try.prog 21 #[.slice (some ⟨b0, off, none⟩) n c] w fun e w' => ∃ sa sc ra rc, e = .returned (.tuple #[.agg #[.int .u8 (decM xs).kind, .int .i64 (decM xs).ver, .int .u8 (decM xs).code, .int .u32 (decM xs).grp, .bool (decM xs).quiet, .int .u8 (decM xs).rob, .int .u8 (decM xs).every, .slice sa (decM xs).srcs.length sc, .slice ra (decM xs).recs.length rc], .int .i64 (decE xs)]) ∧ Ms w' (decM xs) sa ra ∧ Below w.heap.size w w' := by
  have HAT := Lib.hid (show At w b0 off n xs from ⟨hx, hb.2, by
    intro j hj
    rcases hb.1 with rfl | ⟨b, o, e, hc⟩
    · simp at hx; omega
    · simp at e; obtain ⟨rfl, rfl⟩ := e; exact hc j (by omega)⟩)
  obtain ⟨k, hk⟩ : ∃ k, k = xs.getD 0 0 := ⟨_, rfl⟩
  obtain ⟨cd, hcd⟩ : ∃ cd, cd = xs.getD 1 0 := ⟨_, rfl⟩
  have HE : Hid (decE xs = if isKind k = false then 2 else endE (decN xs)) := Lib.hid (by unfold decE; rw [if_neg (by omega), if_neg (by rw [hs]; simp), ← hk])
  have e0 : w.cell? ⟨b0, off, none⟩ = some (.int .u8 k) := by rw [hk]; exact HAT.out.2.2 0 (by omega)
  have e1 : w.cell? ⟨b0, off + 1, none⟩ = some (.int .u8 cd) := by rw [hcd]; exact HAT.out.2.2 1 (by omega)
  have lb := cell_lt e0
  simp only at lb
  have HBG : Hid (mBegin xs = { m0 with kind := k, code := cd }) := Lib.hid (by rw [hk, hcd]; rfl)
  have HK := Lib.hid hk
  have HCD := Lib.hid hcd
  have HB := Lib.hid hb
  have HXS := Lib.hid hx
  have HS := Lib.hid hs
  have HI := Lib.hid (show IsB xs from hb.2)
  have HX := Lib.hid (MB.new w (.int .u8 0) (.int .i64 0) (.int .u8 0) (.int .u32 0) (.bool false) (.int .u8 0) (.int .u8 0) (.slice none 0 0) (.slice none 0 0))
  have B := Lib.hid (bel1 w (.cells #[.int .u8 0, .int .i64 0, .int .u8 0, .int .u32 0, .bool false, .int .u8 0, .int .u8 0, .slice none 0 0, .slice none 0 0] 27))
  have q7 : (0 : Int) < (n : Int) := by omega
  have q8 : (1 : Int) < (n : Int) := by omega
  have q9 : 0 < n := by omega
  have q10 : 1 < n := by omega
  have q11 : ¬ ((n : Int) < 8) := by omega
  have n8 : 8 ≤ n := by omega
  have HKN : Hid (isKind k = false) := Lib.hid (by rw [hk]; exact hkk)
  clear hk hcd hb hx hs h8
  go_enter Try.func21, Try.ntmps21
  go_upto_region 5 with (go_at_call 40; refine (rOf2 (some ⟨b0, off, none⟩) n c xs _ HXS.out hn (bs_below HB.out B.out)).mono ?_; rintro e w1 ⟨rfl, hw1⟩; rw [HS.out]; have X1 : Hid (MB w1 w.heap.size (.int .u8 0) (.int .i64 0) (.int .u8 0) (.int .u32 0) (.bool false) (.int .u8 0) (.int .u8 0) (.slice none 0 0) (.slice none 0 0)) := Lib.hid (by rw [← hw1]; exact HX.out); have B1 : Hid (Below w.heap.size w w1) := Lib.hid (by rw [← hw1]; exact B.out); have S1 : Hid (w.heap.size < w1.heap.size) := Lib.hid X1.out.lt; have g0 := (B1.out.cell (p := ⟨b0, off, none⟩) lb).trans e0; have g1 := (B1.out.cell (p := ⟨b0, off + 1, none⟩) lb).trans e1; have lb1 : b0 < w1.heap.size := (by have := S1.out; omega); subst hw1)
  go_cut [4] (fun s4 wx => ∃ Y, s4 = .pointer (some ⟨Y, 0, none⟩) ∧ w.heap.size < Y ∧ MB wx Y (.int .u8 k) (.int .i64 0) (.int .u8 cd) (.int .u32 0) (.bool false) (.int .u8 0) (.int .u8 0) (.slice none 0 0) (.slice none 0 0) ∧ MB wx w.heap.size (.int .u8 0) (.int .i64 0) (.int .u8 0) (.int .u32 0) (.bool false) (.int .u8 0) (.int .u8 0) (.slice none 0 0) (.slice none 0 0) ∧ Below w.heap.size w wx)
  case first =>
    have S1 : Hid (w.heap.size < (w.alloc (.cells #[.int .u8 0, .int .i64 0, .int .u8 0, .int .u32 0, .bool false, .int .u8 0, .int .u8 0, .slice none 0 0, .slice none 0 0] 27)).heap.size) := Lib.hid HX.out.lt
    go_region
    all_goals
      go_wp2_with fail
      go_meet
      exact ⟨w.heap.size + 1, rfl, by omega, by have := MB.new (w.alloc (.cells #[.int .u8 0, .int .i64 0, .int .u8 0, .int .u32 0, .bool false, .int .u8 0, .int .u8 0, .slice none 0 0, .slice none 0 0] 27)) (.int .u8 k) (.int .i64 0) (.int .u8 cd) (.int .u32 0) (.bool false) (.int .u8 0) (.int .u8 0) (.slice none 0 0) (.slice none 0 0); rw [show (w.alloc (.cells #[.int .u8 0, .int .i64 0, .int .u8 0, .int .u32 0, .bool false, .int .u8 0, .int .u8 0, .slice none 0 0, .slice none 0 0] 27)).heap.size = w.heap.size + 1 by simp] at this; exact this, HX.out.keep (Below.heap_alloc _ _ _ S1.out), by first | exact B.out.alloc B.out.size _ | exact (B.out.alloc B.out.size _).drew⟩
  case rest =>
    obtain ⟨Y, rfl, hY, hmy, hmx, hbel⟩ := hcut
    have HY := Lib.hid hY
    have HMY := Lib.hid hmy
    have HMX := Lib.hid hmx
    have HBE := Lib.hid hbel
    have hbY : b0 ≠ Y := by omega
    have hXY : w.heap.size ≠ Y := by omega
    have g0 := (HBE.out.cell (p := ⟨b0, off, none⟩) lb).trans e0
    have g1 := (HBE.out.cell (p := ⟨b0, off + 1, none⟩) lb).trans e1
    clear hmy hmx hbel
    have ES : Hid (decE xs = 2 ∧ decM xs = m0) := Lib.hid (by
      have h2 : decE xs = 2 := by rw [HE.out, if_pos HKN.out]
      exact ⟨h2, by unfold decM; rw [h2]; rfl⟩)
    have hkn : ¬ (k = 17 ∨ k = 18 ∨ k = 22 ∨ k = 23 ∨ k = 34) := of_decide_eq_false HKN.out
    have b17 : (k == 17) = false := beq_eq_false_iff_ne.2 (fun e => hkn (by omega))
    have b18 : (k == 18) = false := beq_eq_false_iff_ne.2 (fun e => hkn (by omega))
    have b22 : (k == 22) = false := beq_eq_false_iff_ne.2 (fun e => hkn (by omega))
    have b23 : (k == 23) = false := beq_eq_false_iff_ne.2 (fun e => hkn (by omega))
    have b34 : (k == 34) = false := beq_eq_false_iff_ne.2 (fun e => hkn (by omega))
    clear hkn hkk
    obtain ⟨z0, z1, z2, z3, z4, z5, z6, z7, z8, zf⟩ := HMX.out.cells
    have zf0 := zf 0
    have zf1 := zf 1
    have zf2 := zf 2
    have zf3 := zf 3
    have zf4 := zf 4
    have zf5 := zf 5
    have zf6 := zf 6
    have zf7 := zf 7
    have zf8 := zf 8
    clear zf
    go_wp2
    refine ret_cell2 rfl rfl rfl ((HMX.out.store (.int .u8 0) (.int .i64 0) (.int .u8 0) (.int .u32 0) (.bool false) (.int .u8 0) (.int .u8 0) (.slice none 0 0) (.slice none 0 0)).load) ?_
    exact ⟨none, 0, none, 0, by rw [ES.out.1, ES.out.2]; rfl, by rw [ES.out.2]; exact ms0 _, bel_store HBE.out (Nat.le_refl _) _ _ _ _ _ _ _ _ _⟩
end Go.Proofs.Ytmcnanoamgkljaa
