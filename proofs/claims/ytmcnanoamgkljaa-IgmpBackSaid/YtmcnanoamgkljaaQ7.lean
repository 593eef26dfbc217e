/- The message of bytes (igmp.Decode), where it is whole. -/
import Derived.Test.YtmcnanoamgkljaaQ0
import Derived.Test.YtmcnanoamgkljaaQ1
import Derived.Test.YtmcnanoamgkljaaQ2
import Derived.Test.YtmcnanoamgkljaaQ3
import Derived.Test.YtmcnanoamgkljaaQ4
import Derived.Test.YtmcnanoamgkljaaQ5
import Derived.Test.YtmcnanoamgkljaaQ6
namespace Go.Proofs.Ytmcnanoamgkljaa
set_option linter.unusedVariables false
open Go.RowKit

/-- What the map of ways tells of a kind. -/
theorem look_any (R : Nat) (k : Int) : ∃ f, (∀ (w : World) (B : Nat), w.heap[B]? = some (.map (ways R) 5) → (Instr.lookup 63 (.map (some B)) (.int .u8 k) true).run Try.prog w = .ok (.tuple #[f, .bool (isKind k)]) w) ∧
    (k = 17 → f = (.func (.func 55) #[.pointer (some ⟨R, 0, none⟩)] #[])) ∧ ((k = 18 ∨ k = 22 ∨ k = 23) → f = (.func (.func 56) #[.pointer (some ⟨R, 0, none⟩)] #[])) ∧ (k = 34 → f = (.func (.func 57) #[.pointer (some ⟨R, 0, none⟩)] #[])) := by
  by_cases h1 : k = 17
  · subst h1; exact ⟨_, fun w B h => look17 h, fun _ => rfl, fun h => by omega, fun h => by omega⟩
  by_cases h2 : k = 18
  · subst h2; exact ⟨_, fun w B h => look18 h, fun h => by omega, fun _ => rfl, fun h => by omega⟩
  by_cases h3 : k = 22
  · subst h3; exact ⟨_, fun w B h => look22 h, fun h => by omega, fun _ => rfl, fun h => by omega⟩
  by_cases h4 : k = 23
  · subst h4; exact ⟨_, fun w B h => look23 h, fun h => by omega, fun _ => rfl, fun h => by omega⟩
  by_cases h5 : k = 34
  · subst h5; exact ⟨_, fun w B h => look34 h, fun h => by omega, fun h => by omega, fun _ => rfl⟩
  have hk : isKind k = false := by unfold isKind; rw [decide_eq_false_iff_not]; omega
  exact ⟨.nilFunc, fun w B h => by rw [lookNo h k hk, hk], fun h => absurd h h1, fun h => by omega, fun h => absurd h h5⟩

set_option maxHeartbeats 8000000 in
theorem gDec_C (b0 off n c : Nat) (xs : List Int) (w : World) (hx : xs.length = n) (hn : n ≤ 1000000) (hnc : n ≤ c) (h8 : ¬ n < 8) (hb : Bs w (some ⟨b0, off, none⟩) xs) (hs : ofs xs = 0) :
    Calls Try.prog 20 #[.slice (some ⟨b0, off, none⟩) n c] w fun e w' => ∃ sa sc ra rc, e = .returned (.tuple #[.agg #[.int .u8 (decM xs).kind, .int .i64 (decM xs).ver, .int .u8 (decM xs).code, .int .u32 (decM xs).grp, .bool (decM xs).quiet, .int .u8 (decM xs).rob, .int .u8 (decM xs).every, .slice sa (decM xs).srcs.length sc, .slice ra (decM xs).recs.length rc], .int .i64 (decE xs)]) ∧ Ms w' (decM xs) sa ra ∧ Below w.heap.size w w' := by
  have D : Hid ((ofs xs == 0) = true) := Lib.hid (by rw [hs]; rfl)
  have hc : ∀ j, j < n → w.cell? ⟨b0, off + j, none⟩ = some (.int .u8 (xs.getD j 0)) := by
    intro j hj
    rcases hb.1 with rfl | ⟨b, o, e, hc⟩
    · simp at hx; omega
    · simp at e; obtain ⟨rfl, rfl⟩ := e; exact hc j (by omega)
  obtain ⟨k, hk⟩ : ∃ k, k = xs.getD 0 0 := ⟨_, rfl⟩
  obtain ⟨cd, hcd⟩ : ∃ cd, cd = xs.getD 1 0 := ⟨_, rfl⟩
  have hE : decE xs = if isKind k = false then 2 else endE (decN xs) := by unfold decE; rw [if_neg (by omega), if_neg (by rw [hs]; simp), ← hk]
  have HE := Lib.hid hE
  have e0 : w.cell? ⟨b0, off, none⟩ = some (.int .u8 k) := by rw [hk]; exact hc 0 (by omega)
  have e1 : w.cell? ⟨b0, off + 1, none⟩ = some (.int .u8 cd) := by rw [hcd]; exact hc 1 (by omega)
  have lb := cell_lt e0
  simp only at lb
  have HBG : Hid (mBegin xs = { m0 with kind := k, code := cd }) := Lib.hid (by rw [hk, hcd]; rfl)
  have HK := Lib.hid hk
  have HCD := Lib.hid hcd
  have HB := Lib.hid hb
  have HC := Lib.hid hc
  have HXS := Lib.hid hx
  have HI := Lib.hid (show IsB xs from hb.2)
  have HX := Lib.hid (MB.new w (.int .u8 0) (.int .i64 0) (.int .u8 0) (.int .u32 0) (.bool false) (.int .u8 0) (.int .u8 0) (.slice none 0 0) (.slice none 0 0))
  have B := Lib.hid (bel1 w (.cells #[.int .u8 0, .int .i64 0, .int .u8 0, .int .u32 0, .bool false, .int .u8 0, .int .u8 0, .slice none 0 0, .slice none 0 0] 27))
  have q4 : ¬ c = 4 := by omega
  have q5 : 4 ≤ n := by omega
  have q6 : (4 : Int) ≤ (n : Int) := by omega
  have q7 : (0 : Int) < (n : Int) := by omega
  have q8 : (1 : Int) < (n : Int) := by omega
  have q9 : 0 < n := by omega
  have q10 : 1 < n := by omega
  have HL4 : Hid ((xs.drop 4).length = n - 4) := Lib.hid (by rw [List.length_drop, hx])
  have HB4 : Hid (IsB (xs.drop 4)) := Lib.hid (isB_drop hb.2 4)
  clear hE hk hcd hb hc hx hs
  go_enter Try.func20, Try.ntmps20
  go_upto_region 5 with (go_at_call 38; refine (sWhole _ n c xs _ HXS.out hn (bs_below HB.out B.out)).mono ?_; rintro e w1 ⟨rfl, hb1⟩; rw [D.out]; have X1 := Lib.hid (HX.out.below hb1 (by simp)); have B1 := Lib.hid (bel_up B.out hb1); have S1 : Hid (w.heap.size < w1.heap.size) := Lib.hid X1.out.lt; have lb1 : b0 < w1.heap.size := (by have := S1.out; omega); have g0 := (B1.out.cell (p := ⟨b0, off, none⟩) lb).trans e0; have g1 := (B1.out.cell (p := ⟨b0, off + 1, none⟩) lb).trans e1; clear hb1)
  go_cut [4] (fun s4 wx => ∃ R, s4 = .pointer (some ⟨R, 0, none⟩) ∧ w.heap.size < R ∧ RdAt wx R b0 ⟨xs.drop 4, false⟩ (.bool false) (.int .u8 k) (.int .i64 0) (.int .u8 cd) (.int .u32 0) (.bool false) (.int .u8 0) (.int .u8 0) (.slice none 0 0) (.slice none 0 0) ∧ MB wx w.heap.size (.int .u8 0) (.int .i64 0) (.int .u8 0) (.int .u32 0) (.bool false) (.int .u8 0) (.int .u8 0) (.slice none 0 0) (.slice none 0 0) ∧ Below w.heap.size w wx)
  case first =>
    have NEW : Hid (∀ wq : World, wq.heap = w1.heap → RdAt (wq.alloc (.cells #[.slice (some ⟨b0, off + 4, none⟩) (n - 4) (c - 4), .bool false, .bool false, .int .u8 k, .int .i64 0, .int .u8 cd, .int .u32 0, .bool false, .int .u8 0, .int .u8 0, .slice none 0 0, .slice none 0 0] 61)) w1.heap.size b0 ⟨xs.drop 4, false⟩ (.bool false) (.int .u8 k) (.int .i64 0) (.int .u8 cd) (.int .u32 0) (.bool false) (.int .u8 0) (.int .u8 0) (.slice none 0 0) (.slice none 0 0)) := Lib.hid (by
      intro wq hq
      have hsz : wq.heap.size = w1.heap.size := by rw [hq]
      have h := rd_new (w := wq) (b0 := b0) (o := off + 4) (lc := c - 4) ⟨xs.drop 4, false⟩ (.bool false) (.int .u8 k) (.int .i64 0) (.int .u8 cd) (.int .u32 0) (.bool false) (.int .u8 0) (.int .u8 0) (.slice none 0 0) (.slice none 0 0) (by have := S1.out; omega) (by simp only; rw [HL4.out]; omega) (fun j hj => by
        simp only at hj
        rw [HL4.out] at hj
        have hw : wq.cell? ⟨b0, off + 4 + j, none⟩ = w1.cell? ⟨b0, off + 4 + j, none⟩ := World.cell?_of_block (by rw [hq])
        rw [hw, B1.out.cell (p := ⟨b0, off + 4 + j, none⟩) lb, getD_drop2, Nat.add_assoc]
        exact HC.out (4 + j) (by omega))
      simp only at h
      rw [HL4.out, hsz] at h
      exact h)
    go_region
    all_goals
      go_wp2_with fail
      go_meet
      exact ⟨w1.heap.size, rfl, S1.out, NEW.out _ rfl, X1.out.keep (Below.heap_alloc _ _ _ S1.out), B1.out.trans (by first | exact (Below.refl w.heap.size w1).alloc (Nat.le_of_lt S1.out) _ | exact ((Below.refl w.heap.size w1).alloc (Nat.le_of_lt S1.out) _).drew)⟩
  case rest =>
    obtain ⟨R, rfl, hR, hrd, hmb, hbel⟩ := hcut
    obtain ⟨-, -, -, d3, -, -, -, -, -, -, -, -, -⟩ := hrd.cs
    have lR := hrd.lt
    have HR := Lib.hid hR
    have HRD := Lib.hid hrd
    have HMB := Lib.hid hmb
    have HBE := Lib.hid hbel
    clear hrd hmb hbel
    obtain ⟨f, hlook, l17, lg, l34⟩ := look_any R k
    have HLK := Lib.hid hlook
    have L17 := Lib.hid l17
    have LG := Lib.hid lg
    have L34 := Lib.hid l34
    clear hlook l17 lg l34
    go_upto_region 6 with fail
    go_cut [5, 6] (fun s5 s6 wx => s5 = f ∧ s6 = .bool (isKind k) ∧ RdAt wx R b0 ⟨xs.drop 4, false⟩ (.bool false) (.int .u8 k) (.int .i64 0) (.int .u8 cd) (.int .u32 0) (.bool false) (.int .u8 0) (.int .u8 0) (.slice none 0 0) (.slice none 0 0) ∧ MB wx w.heap.size (.int .u8 0) (.int .i64 0) (.int .u8 0) (.int .u32 0) (.bool false) (.int .u8 0) (.int .u8 0) (.slice none 0 0) (.slice none 0 0) ∧ Below w.heap.size w wx)
    case first =>
      go_region_held3 (fun w' => w'.cell? ⟨R, 3, none⟩ = some (.int .u8 k)) (first | go_keep | assumption)
        (first
          | (go_at_call 39; refine (gWays R _).mono ?_; rintro e w3 ⟨rfl, hm, hb3⟩; have hl3 : (Instr.lookup 63 (.map (some wc.heap.size)) (.int .u8 k) true).run Try.prog w3 = .ok (.tuple #[f, .bool (isKind k)]) w3 := HLK.out _ _ hm; have B3 : Hid (Below wc.heap.size wc w3) := Lib.hid ⟨hb3.os, hb3.tape, hb3.output, hb3.size, hb3.block⟩; have c3 : w3.cell? ⟨R, 3, none⟩ = some (.int .u8 k) := (B3.out.cell (p := ⟨R, 3, none⟩) lR).trans d3; clear hm hb3)
          | fail)
      all_goals
        go_wp2_with fail
        go_meet
        exact ⟨rfl, rfl, HRD.out.below B3.out, HMB.out.below B3.out (by have := HR.out; omega), HBE.out.trans (B3.out.mono HBE.out.size)⟩
    case rest =>
      rename_i wc0
      clear HRD HMB HBE lR d3
      obtain ⟨rfl, rfl, hrd, hmb, hbel⟩ := hcut
      have lR := hrd.lt
      have HRD := Lib.hid hrd
      have HMB := Lib.hid hmb
      have HBE := Lib.hid hbel
      clear hrd hmb hbel
      obtain ⟨ik, hik⟩ : ∃ ik, ik = isKind k := ⟨_, rfl⟩
      rw [← hik]
      have HIK := Lib.hid hik
      clear hik
      cases ik with
      | false =>
        have E2 : Hid (decE xs = 2) := Lib.hid (by rw [HE.out, if_pos HIK.out.symm])
        have M2 : Hid (decM xs = m0) := Lib.hid (by unfold decM; rw [E2.out]; rfl)
        obtain ⟨z0, z1, z2, z3, z4, z5, z6, z7, z8, zf⟩ := HMB.out.cells
        have zf0 := zf 0
        have zf1 := zf 1
        have zf2 := zf 2
        have zf3 := zf 3
        have zf4 := zf 4
        have zf5 := zf 5
        have zf6 := zf 6
        have zf7 := zf 7
        have zf8 := zf 8
        clear zf
        go_wp2
        refine ret_cell2 rfl rfl rfl ((HMB.out.store (.int .u8 0) (.int .i64 0) (.int .u8 0) (.int .u32 0) (.bool false) (.int .u8 0) (.int .u8 0) (.slice none 0 0) (.slice none 0 0)).load) ?_
        exact ⟨none, 0, none, 0, by rw [E2.out, M2.out]; rfl, by rw [M2.out]; exact ms0 _, bel_store HBE.out (Nat.le_refl _) _ _ _ _ _ _ _ _ _⟩
      | true =>
        have EE : Hid (decE xs = endE (decN xs)) := Lib.hid (by rw [HE.out, if_neg (by rw [← HIK.out]; simp)])
        go_upto_region 9 with fail
        go_cut [37] (fun s37 wx => EnAt w wx w.heap.size R b0 (decN xs))
        case first =>
          have hk5 : k = 17 ∨ (k = 18 ∨ k = 22 ∨ k = 23) ∨ k = 34 := by
            have := HIK.out
            unfold isKind at this
            have := of_decide_eq_true this.symm
            omega
          have HL1 : Hid ((⟨xs.drop 4, false⟩ : St).left.length ≤ 1000000) := Lib.hid (by simp only; rw [HL4.out]; omega)
          rcases hk5 with h17 | hg | h34
          · have ef := L17.out h17
            subst ef
            subst h17
            by_cases q1 : (⟨xs.drop 4, false⟩ : St).left.length = 4 ∧ cd = 0
            · obtain ⟨q1a, q1b⟩ := q1
              have DN : Hid (decN xs = ⟨(raddr ⟨xs.drop 4, false⟩).2, false, { m0 with kind := 17, code := cd, ver := 1 }⟩) := Lib.hid (by
                unfold decN goOn
                rw [HBG.out, if_pos rfl]
                unfold goQuery
                rw [if_pos ⟨q1a, q1b⟩])
              have FT := Lib.hid (fit_plain HI.out (raddr ⟨xs.drop 4, false⟩).2 false 1 (by omega))
              rw [HBG.out] at FT
              have Q1A := Lib.hid q1a
              have Q1B := Lib.hid q1b
              clear q1a q1b
              go_wp2_with (go_at_call 55; refine (gQuery1 R b0 ⟨xs.drop 4, false⟩ (.bool false) (.slice none 0 0) (.slice none 0 0) 17 0 cd 0 0 0 false _ HRD.out HB4.out HL1.out Q1A.out Q1B.out).mono ?_; rintro e w5 ⟨rfl, hrd, hbt⟩; have RD5 := Lib.hid hrd; have BT5 := Lib.hid hbt; clear hrd hbt)
              go_meet
              rw [DN.out]
              exact ⟨none, 0, none, 0, RD5.out, up_nil FT.out.1 rfl rfl, HMB.out.but BT5.out (by have := HR.out; omega), HBE.out.trans (BT5.out.below (by have := HR.out; omega) HBE.out.size)⟩
            by_cases q2 : 0 < (raddr ⟨xs.drop 4, false⟩).2.left.length
            · have DN : Hid (decN xs = ⟨(goBeside { m0 with kind := 17, code := cd, ver := 3, grp := (raddr ⟨xs.drop 4, false⟩).1 } (raddr ⟨xs.drop 4, false⟩).2).2, false, (goBeside { m0 with kind := 17, code := cd, ver := 3, grp := (raddr ⟨xs.drop 4, false⟩).1 } (raddr ⟨xs.drop 4, false⟩).2).1⟩) := Lib.hid (by
                unfold decN goOn
                rw [HBG.out, if_pos rfl]
                unfold goQuery
                rw [if_neg q1, if_pos q2])
              have RB := raddr_B (s := ⟨xs.drop 4, false⟩) HB4.out
              have FT := Lib.hid (fit_beside HI.out RB.2 (raddr ⟨xs.drop 4, false⟩).1 RB.1 (goBeside { m0 with kind := 17, code := cd, ver := 3, grp := (raddr ⟨xs.drop 4, false⟩).1 } (raddr ⟨xs.drop 4, false⟩).2).2 false)
              rw [HBG.out] at FT
              have Q1 := Lib.hid q1
              have Q2 := Lib.hid q2
              clear q1 q2 RB
              go_wp2_with (go_at_call 55; refine (gQuery3 R b0 ⟨xs.drop 4, false⟩ (.bool false) (.slice none 0 0) (.slice none 0 0) 17 0 cd 0 0 0 false _ HRD.out HB4.out HL1.out Q1.out Q2.out).mono ?_; rintro e w5 ⟨a5, c5, rfl, has, hrd, hbt⟩; have RD5 := Lib.hid hrd; have BT5 := Lib.hid hbt; have AS5 := Lib.hid has; clear hrd hbt has)
              go_meet
              rw [DN.out]
              exact ⟨a5, c5, none, 0, RD5.out, up_srcs FT.out.1 AS5.out (by omega) FT.out.2.1 rfl, HMB.out.but BT5.out (by have := HR.out; omega), HBE.out.trans (BT5.out.below (by have := HR.out; omega) HBE.out.size)⟩
            · have DN : Hid (decN xs = ⟨(raddr ⟨xs.drop 4, false⟩).2, false, { m0 with kind := 17, code := cd, ver := 2, grp := (raddr ⟨xs.drop 4, false⟩).1 }⟩) := Lib.hid (by
                unfold decN goOn
                rw [HBG.out, if_pos rfl]
                unfold goQuery
                rw [if_neg q1, if_neg q2])
              have FT := Lib.hid (fit_group HI.out (s := ⟨xs.drop 4, false⟩) HB4.out (raddr ⟨xs.drop 4, false⟩).2 false 2 (by omega))
              rw [HBG.out] at FT
              have Q1 := Lib.hid q1
              have Q2 : Hid ((raddr ⟨xs.drop 4, false⟩).2.left.length = 0) := Lib.hid (by omega)
              clear q1 q2
              go_wp2_with (go_at_call 55; refine (gQuery2 R b0 ⟨xs.drop 4, false⟩ (.bool false) (.slice none 0 0) (.slice none 0 0) 17 0 cd 0 0 0 false _ HRD.out HB4.out HL1.out Q1.out Q2.out).mono ?_; rintro e w5 ⟨rfl, hrd, hbt⟩; have RD5 := Lib.hid hrd; have BT5 := Lib.hid hbt; clear hrd hbt)
              go_meet
              rw [DN.out]
              exact ⟨none, 0, none, 0, RD5.out, up_nil FT.out.1 rfl rfl, HMB.out.but BT5.out (by have := HR.out; omega), HBE.out.trans (BT5.out.below (by have := HR.out; omega) HBE.out.size)⟩
          · have ef := LG.out hg
            subst ef
            have DN : Hid (decN xs = ⟨(raddr ⟨xs.drop 4, false⟩).2, false, { m0 with kind := k, code := cd, ver := 0, grp := (raddr ⟨xs.drop 4, false⟩).1 }⟩) := Lib.hid (by
                unfold decN goOn
                rw [HBG.out, if_neg (by simp only; omega), if_neg (by simp only; omega)]
                rfl)
            have FT := Lib.hid (fit_group HI.out (s := ⟨xs.drop 4, false⟩) HB4.out (raddr ⟨xs.drop 4, false⟩).2 false 0 (by omega))
            rw [HBG.out] at FT
            clear hg
            go_wp2_with (go_at_call 56; refine (gGroup R b0 ⟨xs.drop 4, false⟩ (.bool false) (.int .u8 k) (.int .i64 0) (.int .u8 cd) (.int .u32 0) (.bool false) (.int .u8 0) (.int .u8 0) (.slice none 0 0) (.slice none 0 0) _ HRD.out HB4.out HL1.out).mono ?_; rintro e w5 ⟨rfl, hrd, hbt⟩; have RD5 := Lib.hid hrd; have BT5 := Lib.hid hbt; clear hrd hbt)
            go_meet
            rw [DN.out]
            exact ⟨none, 0, none, 0, RD5.out, up_nil FT.out.1 rfl rfl, HMB.out.but BT5.out (by have := HR.out; omega), HBE.out.trans (BT5.out.below (by have := HR.out; omega) HBE.out.size)⟩
          · have ef := L34.out h34
            subst ef
            subst h34
            have DN : Hid (decN xs = goReport { m0 with kind := 34, code := cd } ⟨xs.drop 4, false⟩) := Lib.hid (by
                unfold decN goOn
                rw [HBG.out, if_neg (by simp), if_pos rfl])
            have FT := Lib.hid (fit_report HI.out (s := ⟨xs.drop 4, false⟩) HB4.out)
            rw [HBG.out] at FT
            go_wp2_with (go_at_call 57; refine (gReportR R b0 ⟨xs.drop 4, false⟩ (.bool false) (.int .u8 34) (.int .i64 0) (.int .u8 cd) (.int .u32 0) (.bool false) (.int .u8 0) (.int .u8 0) (.slice none 0 0) _ HRD.out HB4.out HL1.out).mono ?_; rintro e w5 ⟨a5, cap5, cs5, rfl, hrow, hrd, hbt⟩; have RD5 := Lib.hid hrd; have BT5 := Lib.hid hbt; have RW5 := Lib.hid hrow; clear hrd hbt hrow)
            go_meet
            rw [DN.out]
            exact ⟨none, 0, a5, cap5, RD5.out, up_recs FT.out.1 rfl RW5.out (by omega) FT.out.2.2, HMB.out.but BT5.out (by have := HR.out; omega), HBE.out.trans (BT5.out.below (by have := HR.out; omega) HBE.out.size)⟩
        case rest =>
          clear HRD HMB HBE lR
          obtain ⟨e, he⟩ : ∃ e, e = decN xs := ⟨_, rfl⟩
          rw [← he] at hcut EE
          have EM : Hid (decM xs = if decE xs = 0 then e.m else m0) := Lib.hid (by rw [he]; rfl)
          clear he
          obtain ⟨sa, sc, ra, rc, hrd, hms, hmb, hbel⟩ := hcut
          have HMB := Lib.hid hmb
          have HBE := Lib.hid hbel
          have HUP := Lib.hid hms
          have HMS := Lib.hid hms.self
          have lR := hrd.lt
          have hR' := HR.out
          obtain ⟨⟨l, sh⟩, wr, ⟨k0, v0, cd0, g0, q0, rob0, ev0, srcs0, recs0⟩⟩ := e
          simp only at hrd HMS HUP EM
          obtain ⟨⟨ol, lc, d0⟩, d1, d2, d3, d4, d5, d6, d7, d8, d9, d10, d11, -⟩ := hrd.cs
          simp only at d0 d1
          have HRD := Lib.hid hrd
          clear hrd hms hmb hbel
          obtain ⟨z0, z1, z2, z3, z4, z5, z6, z7, z8, zf⟩ := HMB.out.cells
          have zf0 := zf 0
          have zf1 := zf 1
          have zf2 := zf 2
          have zf3 := zf 3
          have zf4 := zf 4
          have zf5 := zf 5
          have zf6 := zf 6
          have zf7 := zf 7
          have zf8 := zf 8
          clear zf
          have ZERO : ∀ (E0 : Int), E0 ≠ 0 → decE xs = E0 → decM xs = m0 := fun E0 h0 h => by rw [EM.out, h, if_neg h0]
          have ZERO := Lib.hid ZERO
          cases sh with
          | true =>
            have E3 : Hid (decE xs = 3) := Lib.hid (by rw [EE.out]; rfl)
            have M3 := Lib.hid (ZERO.out 3 (by omega) E3.out)
            go_wp2
            refine ret_cell2 rfl rfl rfl ((HMB.out.store (.int .u8 0) (.int .i64 0) (.int .u8 0) (.int .u32 0) (.bool false) (.int .u8 0) (.int .u8 0) (.slice none 0 0) (.slice none 0 0)).load) ?_
            exact ⟨none, 0, none, 0, by rw [E3.out, M3.out]; rfl, by rw [M3.out]; exact ms0 _, bel_store HBE.out (Nat.le_refl _) _ _ _ _ _ _ _ _ _⟩
          | false =>
            by_cases hl0 : 0 < l.length
            · have E2 : Hid (decE xs = 2) := Lib.hid (by rw [EE.out]; unfold endE; rw [if_neg (by simp), if_pos (.inl hl0)])
              have M2 := Lib.hid (ZERO.out 2 (by omega) E2.out)
              have hl1 : (l.length : Int) > 0 := by omega
              go_wp2
              refine ret_cell2 rfl rfl rfl ((HMB.out.store (.int .u8 0) (.int .i64 0) (.int .u8 0) (.int .u32 0) (.bool false) (.int .u8 0) (.int .u8 0) (.slice none 0 0) (.slice none 0 0)).load) ?_
              exact ⟨none, 0, none, 0, by rw [E2.out, M2.out]; rfl, by rw [M2.out]; exact ms0 _, bel_store HBE.out (Nat.le_refl _) _ _ _ _ _ _ _ _ _⟩
            obtain rfl : l = [] := List.eq_nil_of_length_eq_zero (by omega)
            cases wr with
            | true =>
              have E2 : Hid (decE xs = 2) := Lib.hid (by rw [EE.out]; unfold endE; rw [if_neg (by simp), if_pos (.inr (.inl rfl))])
              have M2 := Lib.hid (ZERO.out 2 (by omega) E2.out)
              go_wp2
              refine ret_cell2 rfl rfl rfl ((HMB.out.store (.int .u8 0) (.int .i64 0) (.int .u8 0) (.int .u32 0) (.bool false) (.int .u8 0) (.int .u8 0) (.slice none 0 0) (.slice none 0 0)).load) ?_
              exact ⟨none, 0, none, 0, by rw [E2.out, M2.out]; rfl, by rw [M2.out]; exact ms0 _, bel_store HBE.out (Nat.le_refl _) _ _ _ _ _ _ _ _ _⟩
            | false =>
              obtain ⟨y, hy⟩ : ∃ y, y = right ⟨k0, v0, cd0, g0, q0, rob0, ev0, srcs0, recs0⟩ := ⟨_, rfl⟩
              have HY := Lib.hid hy
              clear hy
              cases y with
              | false =>
                have E2 : Hid (decE xs = 2) := Lib.hid (by rw [EE.out]; unfold endE; rw [if_neg (by simp), if_pos (.inr (.inr HY.out.symm))])
                have M2 := Lib.hid (ZERO.out 2 (by omega) E2.out)
                clear z0 z1 z2 z3 z4 z5 z6 z7 z8 zf0 zf1 zf2 zf3 zf4 zf5 zf6 zf7 zf8
                go_wp2_with (go_at_call 15; refine (gRight ⟨k0, v0, cd0, g0, q0, rob0, ev0, srcs0, recs0⟩ sa ra sc rc _ HMS.out).mono ?_; rintro e7 w7 ⟨rfl, hb7⟩; rw [← HY.out]; have MB7 := Lib.hid (HMB.out.below hb7 HMB.out.lt); have BE7 := Lib.hid (HBE.out.trans (hb7.mono HBE.out.size)); obtain ⟨z0, z1, z2, z3, z4, z5, z6, z7, z8, zf⟩ := MB7.out.cells; have zf0 := zf 0; have zf1 := zf 1; have zf2 := zf 2; have zf3 := zf 3; have zf4 := zf 4; have zf5 := zf 5; have zf6 := zf 6; have zf7 := zf 7; have zf8 := zf 8; clear hb7 zf)
                refine ret_cell2 rfl rfl rfl ((MB7.out.store (.int .u8 0) (.int .i64 0) (.int .u8 0) (.int .u32 0) (.bool false) (.int .u8 0) (.int .u8 0) (.slice none 0 0) (.slice none 0 0)).load) ?_
                exact ⟨none, 0, none, 0, by rw [E2.out, M2.out]; rfl, by rw [M2.out]; exact ms0 _, bel_store BE7.out (Nat.le_refl _) _ _ _ _ _ _ _ _ _⟩
              | true =>
                have E0 : Hid (decE xs = 0) := Lib.hid (by rw [EE.out]; unfold endE; rw [if_neg (by simp), if_neg (by simp [← HY.out])])
                have M0 : Hid (decM xs = ⟨k0, v0, cd0, g0, q0, rob0, ev0, srcs0, recs0⟩) := Lib.hid (by rw [EM.out, if_pos E0.out])
                clear z0 z1 z2 z3 z4 z5 z6 z7 z8 zf0 zf1 zf2 zf3 zf4 zf5 zf6 zf7 zf8
                have hRX : R ≠ w.heap.size := by have := HR.out; omega
                go_wp2_with (go_at_call 15; refine (gRight ⟨k0, v0, cd0, g0, q0, rob0, ev0, srcs0, recs0⟩ sa ra sc rc _ HMS.out).mono ?_; rintro e7 w7 ⟨rfl, hb7⟩; rw [← HY.out]; have MB7 := Lib.hid (HMB.out.below hb7 HMB.out.lt); have BE7 := Lib.hid (HBE.out.trans (hb7.mono HBE.out.size)); have HB7 := Lib.hid hb7; obtain ⟨z0, z1, z2, z3, z4, z5, z6, z7, z8, zf⟩ := MB7.out.cells; have zf0 := zf 0; have zf1 := zf 1; have zf2 := zf 2; have zf3 := zf 3; have zf4 := zf 4; have zf5 := zf 5; have zf6 := zf 6; have zf7 := zf 7; have zf8 := zf 8; obtain ⟨-, -, -, t3, t4, t5, t6, t7, t8, t9, t10, t11, -⟩ := (HRD.out.below hb7).cs; clear hb7 zf)
                refine ret_cell2 rfl rfl rfl ((MB7.out.store (.int .u8 k0) (.int .i64 v0) (.int .u8 cd0) (.int .u32 g0) (.bool q0) (.int .u8 rob0) (.int .u8 ev0) (.slice sa srcs0.length sc) (.slice ra recs0.length rc)).load) ?_
                refine ⟨sa, sc, ra, rc, by rw [E0.out, M0.out]; rfl, ?_, bel_store BE7.out (Nat.le_refl _) _ _ _ _ _ _ _ _ _⟩
                rw [M0.out]
                exact HUP.out _ (by rw [set_size, set_size, set_size, set_size, set_size, set_size, set_size, set_size, set_size]; exact HB7.out.size) (fun q hq hq2 => (store_other (by omega) _ _ _ _ _ _ _ _ _).trans (HB7.out.block q hq2))
end Go.Proofs.Ytmcnanoamgkljaa
