/- Which messages are right: the document's own answer (stolonref05.Right). -/
import Derived.Test.YtmcnanoamgkljaaQ0
import Derived.Test.YtmcnanoamgkljaaQ1
import Derived.Deep.DeepCutAuto
namespace Go.Proofs.Ytmcnanoamgkljaa
set_option linter.unusedVariables false
open Go.RowKit

set_option maxRecDepth 100000 in
set_option maxHeartbeats 8000000 in
theorem rRight (x : Msg) (sa ra : Option Addr) (sc rc : Nat) (w : World) (h1 : Ms w x sa ra) :
    Calls Try.prog 16 #[.agg #[.int .u8 x.kind, .int .i64 x.ver, .int .u8 x.code, .int .u32 x.grp, .bool x.quiet, .int .u8 x.rob, .int .u8 x.every, .slice sa x.srcs.length sc, .slice ra x.recs.length rc]] w fun e w' => e = .returned (.bool (right x)) ∧ Below w.heap.size w w' := by
  obtain ⟨_, _, _, _, _, _, _, _, i1, i2⟩ := id h1
  have HM := Lib.hid h1
  clear h1
  obtain ⟨k, v, c, g, q, r, e, s, l⟩ := x
  simp only at i1 i2 ⊢
  have I2 := Lib.hid i2
  have HO : Hid (∀ (W : World), Below w.heap.size w W → Below w.heap.size w (W)) := Lib.hid (fun W h => h)
  go_enter Try.func16, Try.ntmps16
  go_upto_region 1 with fail
  go_cut [3] (fun s3 wx => s3 = .bool (bare ⟨k, v, c, g, q, r, e, s, l⟩) ∧ wx = w.alloc (.cells #[.int .u8 k, .int .i64 v, .int .u8 c, .int .u32 g, .bool q, .int .u8 r, .int .u8 e, .slice sa s.length sc, .slice ra l.length rc] 27))
  case first =>
    cases q with
    | true =>
      go_wp2_with fail
      go_meet
      exact ⟨rfl, rfl⟩
    | false =>
      by_cases r0 : r = 0
      case neg =>
        have f : (r == 0) = false := by simp [r0]
        have E : Hid (bare ⟨k, v, c, g, false, r, e, s, l⟩ = false) := Lib.hid (by simp [bare, r0])
        clear r0
        go_wp2_with fail
        go_meet
        exact ⟨by rw [E.out], rfl⟩
      subst r0
      by_cases e0 : e = 0
      case neg =>
        have f : (e == 0) = false := by simp [e0]
        have E : Hid (bare ⟨k, v, c, g, false, 0, e, s, l⟩ = false) := Lib.hid (by simp [bare, e0])
        clear e0
        go_wp2_with fail
        go_meet
        exact ⟨by rw [E.out], rfl⟩
      subst e0
      cases s with
      | nil =>
        go_wp2_with fail
        go_meet
        exact ⟨rfl, rfl⟩
      | cons s0 s =>
        have E : Hid (bare ⟨k, v, c, g, false, 0, 0, s0 :: s, l⟩ = false) := Lib.hid rfl
        go_wp2_with fail
        go_meet
        exact ⟨by rw [E.out]; exact congrArg Value.bool (by rw [beq_eq_false_iff_ne]; omega), rfl⟩
  case rest =>
    obtain ⟨rfl, rfl⟩ := hcut
    obtain ⟨b, hb⟩ : ∃ b, b = bare ⟨k, v, c, g, q, r, e, s, l⟩ := ⟨_, rfl⟩
    rw [← hb]
    have HBB := Lib.hid hb
    clear hb
    obtain ⟨y, hy⟩ : ∃ y, y = asked g := ⟨_, rfl⟩
    have HY := Lib.hid hy
    clear hy
    by_cases k34 : k = 34
    · subst k34
      cases b with
      | false =>
        have E : Hid (right ⟨34, v, c, g, q, r, e, s, l⟩ = false) := Lib.hid (by simp [right, ← HBB.out])
        go_wp2_with (go_at_call 22; refine (rAsked _ _).mono ?_; rintro e0 w0 ⟨rfl, rfl⟩; rw [← HY.out])
        go_ret
        exact ⟨ret_bool E.out.symm, bel1 _ _⟩
      | true =>
        by_cases v0 : v = 0
        case neg =>
          have E : Hid (right ⟨34, v, c, g, q, r, e, s, l⟩ = false) := Lib.hid (by simp [right, v0])
          have f : (v == 0) = false := by simp [v0]
          have f2 : (v != 0) = true := by simp [v0]
          clear v0
          go_wp2_with (go_at_call 22; refine (rAsked _ _).mono ?_; rintro e0 w0 ⟨rfl, rfl⟩; rw [← HY.out])
          go_ret
          exact ⟨ret_bool E.out.symm, bel1 _ _⟩
        subst v0
        by_cases c0 : c = 0
        case neg =>
          have E : Hid (right ⟨34, 0, c, g, q, r, e, s, l⟩ = false) := Lib.hid (by simp [right, c0])
          have f : (c == 0) = false := by simp [c0]
          have f2 : (c != 0) = true := by simp [c0]
          clear c0
          go_wp2_with (go_at_call 22; refine (rAsked _ _).mono ?_; rintro e0 w0 ⟨rfl, rfl⟩; rw [← HY.out])
          go_ret
          exact ⟨ret_bool E.out.symm, bel1 _ _⟩
        subst c0
        by_cases g0 : g = 0
        case neg =>
          have E : Hid (right ⟨34, 0, 0, g, q, r, e, s, l⟩ = false) := Lib.hid (by simp [right, g0])
          have f : (g == 0) = false := by simp [g0]
          have f2 : (g != 0) = true := by simp [g0]
          clear g0
          go_wp2_with (go_at_call 22; refine (rAsked _ _).mono ?_; rintro e0 w0 ⟨rfl, rfl⟩; rw [← HY.out])
          go_ret
          exact ⟨ret_bool E.out.symm, bel1 _ _⟩
        subst g0
        by_cases l32 : (l.length : Int) ≤ 32
        case neg =>
          have E : Hid (right ⟨34, 0, 0, 0, q, r, e, s, l⟩ = false) := Lib.hid (by have : ¬ l.length ≤ 32 := (by omega); simp [right, okL, this])
          go_wp2_with (go_at_call 22; refine (rAsked _ _).mono ?_; rintro e0 w0 ⟨rfl, rfl⟩; rw [← HY.out])
          go_ret
          exact ⟨ret_bool E.out.symm, bel1 _ _⟩
        have E : Hid (right ⟨34, 0, 0, 0, q, r, e, s, l⟩ = l.all okR) := Lib.hid (by have : l.length ≤ 32 := (by omega); simp [right, okL, this, ← HBB.out])
        obtain ⟨n, hn⟩ : ∃ n, n = l.length := ⟨_, rfl⟩
        have HN := Lib.hid hn
        have nl : n ≤ 32 := by omega
        rw [← hn]
        clear hn l32 i1 i2
        go_wp2_with (go_at_call 22; refine (rAsked _ _).mono ?_; rintro e0 w0 ⟨rfl, rfl⟩; rw [← HY.out])
        go_loopw [5] (fun i wr => ∃ j : Nat, j ≤ n ∧ i = .int .i64 j ∧ AllTo l j ∧ Below (w.alloc (.cells #[.int .u8 34, .int .i64 0, .int .u8 0, .int .u32 0, .bool q, .int .u8 r, .int .u8 e, .slice sa s.length sc, .slice ra n rc] 27)).heap.size (w.alloc (.cells #[.int .u8 34, .int .i64 0, .int .u8 0, .int .u32 0, .bool q, .int .u8 r, .int .u8 e, .slice sa s.length sc, .slice ra n rc] 27)) wr) (fun i _ => n - (intOf i).toNat)
        case atStart => exact ⟨0, by omega, rfl, fun j r h => absurd h (by omega), Below.refl _ _⟩
        case round =>
          obtain ⟨j, hj, rfl, hpre, hbel⟩ := hrel
          have HP := Lib.hid hpre
          obtain ⟨_, _, _, _, _, _, _, _, b8⟩ := boxM hbel
          have HB := Lib.hid (bel_up (bel1 _ _) hbel)
          have HB' := Lib.hid hbel
          have lw : w.heap.size < wr.heap.size := by have := hbel.size; simp at this; omega
          clear hpre hbel
          by_cases hlt : j < n
          · obtain ⟨x, hxk⟩ : ∃ x, l[j]? = some x := ⟨_, List.getElem?_eq_getElem (by have := HN.out; omega)⟩
            have hrs := HM.out.2.1
            have HXK := Lib.hid hxk
            rcases hrs with hrs | ⟨b1, o1, rfl, hrs⟩
            · simp only at hrs; subst hrs; simp at hxk
            obtain ⟨ax, cx, x0, x1, x2, _, x4, x5, hxl⟩ := (hrs j x hxk).below HB.out
            clear hrs hxk
            have l1 := cell_lt x0
            simp only at l1
            have i1 : (0 : Int) ≤ (j : Int) := by omega
            have i2 : (j : Int) < (n : Int) := by omega
            obtain ⟨t, gg, ss⟩ := x
            simp only at x0 x1 x2 x4 x5 hxl
            obtain ⟨z, hz⟩ : ∃ z, z = asked gg := ⟨_, rfl⟩
            have HZ := Lib.hid hz
            clear hz
            by_cases t1 : t < 1
            ·
              have E2 : Hid (right ⟨34, 0, 0, 0, q, r, e, s, l⟩ = false) := Lib.hid (by rw [E.out]; exact all_not HXK.out (by have : ¬ 1 ≤ t := (by omega); simp [okR, this]))
              go_wp2_with (go_at_call 22; refine (rAsked gg _).mono ?_; rintro e0 w0 ⟨rfl, rfl⟩; rw [← HZ.out])
              go_ret
              exact ⟨ret_bool E2.out.symm, HB.out.alloc HB.out.size _⟩
            by_cases t6 : t > 6
            ·
              have E2 : Hid (right ⟨34, 0, 0, 0, q, r, e, s, l⟩ = false) := Lib.hid (by rw [E.out]; exact all_not HXK.out (by have : ¬ t ≤ 6 := (by omega); simp [okR, this]))
              go_wp2_with (go_at_call 22; refine (rAsked gg _).mono ?_; rintro e0 w0 ⟨rfl, rfl⟩; rw [← HZ.out])
              go_ret
              exact ⟨ret_bool E2.out.symm, HB.out.alloc HB.out.size _⟩
            cases z with
            | false =>
              have E2 : Hid (right ⟨34, 0, 0, 0, q, r, e, s, l⟩ = false) := Lib.hid (by rw [E.out]; exact all_not HXK.out (by simp [okR, ← HZ.out]))
              go_wp2_with (go_at_call 22; refine (rAsked gg _).mono ?_; rintro e0 w0 ⟨rfl, rfl⟩; rw [← HZ.out])
              go_ret
              exact ⟨ret_bool E2.out.symm, HB.out.alloc HB.out.size _⟩
            | true =>
              by_cases s64 : (ss.length : Int) > 64
              ·
                have E2 : Hid (right ⟨34, 0, 0, 0, q, r, e, s, l⟩ = false) := Lib.hid (by rw [E.out]; exact all_not HXK.out (by have : ¬ ss.length ≤ 64 := (by omega); simp [okR, this]))
                go_wp2_with (go_at_call 22; refine (rAsked gg _).mono ?_; rintro e0 w0 ⟨rfl, rfl⟩; rw [← HZ.out])
                go_ret
                exact ⟨ret_bool E2.out.symm, HB.out.alloc HB.out.size _⟩
              have OK : Hid (okR ⟨t, gg, ss⟩ = true) := Lib.hid (by have a1 : 1 ≤ t := (by omega); have a2 : t ≤ 6 := (by omega); have a3 : ss.length ≤ 64 := (by omega); simp [okR, a1, a2, a3, ← HZ.out])
              go_wp2_with (go_at_call 22; refine (rAsked gg _).mono ?_; rintro e0 w0 ⟨rfl, rfl⟩; rw [← HZ.out])
              go_roundw
              case rel => exact ⟨j + 1, by omega, by go_num, allTo_next HP.out HXK.out OK.out, HB'.out.alloc HB'.out.size _⟩
              case measure => simp [intOf]; omega
          · obtain rfl : j = n := by omega
            have E2 : Hid (right ⟨34, 0, 0, 0, q, r, e, s, l⟩ = true) := Lib.hid (by rw [E.out]; exact all_of HN.out.symm HP.out)
            go_wp2
            go_ret
            exact ⟨ret_bool E2.out.symm, HB.out⟩
    have f34 : (k == 34) = false := by simp [k34]
    have K34 := Lib.hid k34
    clear k34
    cases l with
    | cons l0 l =>
      have E : Hid (right ⟨k, v, c, g, q, r, e, s, l0 :: l⟩ = false) := Lib.hid (by simp [right, K34.out])
      have f : (((l0 :: l).length : Nat) : Int) > 0 := by simp only [List.length_cons]; omega
      go_wp2_with (go_at_call 22; refine (rAsked _ _).mono ?_; rintro e0 w0 ⟨rfl, rfl⟩; rw [← HY.out])
      go_ret
      exact ⟨ret_bool E.out.symm, bel1 _ _⟩
    | nil =>
      by_cases k18 : k = 18
      · subst k18
        cases b with
        | false =>
          have E : Hid (right ⟨18, v, c, g, q, r, e, s, []⟩ = false) := Lib.hid (by simp [right, ← HBB.out])
          go_wp2_with (go_at_call 22; refine (rAsked _ _).mono ?_; rintro e0 w0 ⟨rfl, rfl⟩; rw [← HY.out])
          go_ret
          exact ⟨ret_bool E.out.symm, bel1 _ _⟩
        | true =>
          by_cases v0 : v = 0
          case neg =>
            have E : Hid (right ⟨18, v, c, g, q, r, e, s, []⟩ = false) := Lib.hid (by simp [right, v0])
            have f : (v == 0) = false := by simp [v0]
            clear v0
            go_wp2_with (go_at_call 22; refine (rAsked _ _).mono ?_; rintro e0 w0 ⟨rfl, rfl⟩; rw [← HY.out])
            go_ret
            exact ⟨ret_bool E.out.symm, bel1 _ _⟩
          subst v0
          by_cases c0 : c = 0
          case neg =>
            have E : Hid (right ⟨18, 0, c, g, q, r, e, s, []⟩ = false) := Lib.hid (by simp [right, c0])
            have f : (c == 0) = false := by simp [c0]
            clear c0
            go_wp2_with (go_at_call 22; refine (rAsked _ _).mono ?_; rintro e0 w0 ⟨rfl, rfl⟩; rw [← HY.out])
            go_ret
            exact ⟨ret_bool E.out.symm, bel1 _ _⟩
          subst c0
          have E : Hid (right ⟨18, 0, 0, g, q, r, e, s, []⟩ = y) := Lib.hid (by simp [right, ← HBB.out, ← HY.out])
          go_wp2_with (go_at_call 22; refine (rAsked _ _).mono ?_; rintro e0 w0 ⟨rfl, rfl⟩; rw [← HY.out])
          go_ret
          exact ⟨ret_bool E.out.symm, bel1 _ _⟩
      by_cases k22 : k = 22
      · subst k22
        cases b with
        | false =>
          have E : Hid (right ⟨22, v, c, g, q, r, e, s, []⟩ = false) := Lib.hid (by simp [right, ← HBB.out])
          go_wp2_with (go_at_call 22; refine (rAsked _ _).mono ?_; rintro e0 w0 ⟨rfl, rfl⟩; rw [← HY.out])
          go_ret
          exact ⟨ret_bool E.out.symm, bel1 _ _⟩
        | true =>
          by_cases v0 : v = 0
          case neg =>
            have E : Hid (right ⟨22, v, c, g, q, r, e, s, []⟩ = false) := Lib.hid (by simp [right, v0])
            have f : (v == 0) = false := by simp [v0]
            clear v0
            go_wp2_with (go_at_call 22; refine (rAsked _ _).mono ?_; rintro e0 w0 ⟨rfl, rfl⟩; rw [← HY.out])
            go_ret
            exact ⟨ret_bool E.out.symm, bel1 _ _⟩
          subst v0
          by_cases c0 : c = 0
          case neg =>
            have E : Hid (right ⟨22, 0, c, g, q, r, e, s, []⟩ = false) := Lib.hid (by simp [right, c0])
            have f : (c == 0) = false := by simp [c0]
            clear c0
            go_wp2_with (go_at_call 22; refine (rAsked _ _).mono ?_; rintro e0 w0 ⟨rfl, rfl⟩; rw [← HY.out])
            go_ret
            exact ⟨ret_bool E.out.symm, bel1 _ _⟩
          subst c0
          have E : Hid (right ⟨22, 0, 0, g, q, r, e, s, []⟩ = y) := Lib.hid (by simp [right, ← HBB.out, ← HY.out])
          go_wp2_with (go_at_call 22; refine (rAsked _ _).mono ?_; rintro e0 w0 ⟨rfl, rfl⟩; rw [← HY.out])
          go_ret
          exact ⟨ret_bool E.out.symm, bel1 _ _⟩
      by_cases k23 : k = 23
      · subst k23
        cases b with
        | false =>
          have E : Hid (right ⟨23, v, c, g, q, r, e, s, []⟩ = false) := Lib.hid (by simp [right, ← HBB.out])
          go_wp2_with (go_at_call 22; refine (rAsked _ _).mono ?_; rintro e0 w0 ⟨rfl, rfl⟩; rw [← HY.out])
          go_ret
          exact ⟨ret_bool E.out.symm, bel1 _ _⟩
        | true =>
          by_cases v0 : v = 0
          case neg =>
            have E : Hid (right ⟨23, v, c, g, q, r, e, s, []⟩ = false) := Lib.hid (by simp [right, v0])
            have f : (v == 0) = false := by simp [v0]
            clear v0
            go_wp2_with (go_at_call 22; refine (rAsked _ _).mono ?_; rintro e0 w0 ⟨rfl, rfl⟩; rw [← HY.out])
            go_ret
            exact ⟨ret_bool E.out.symm, bel1 _ _⟩
          subst v0
          by_cases c0 : c = 0
          case neg =>
            have E : Hid (right ⟨23, 0, c, g, q, r, e, s, []⟩ = false) := Lib.hid (by simp [right, c0])
            have f : (c == 0) = false := by simp [c0]
            clear c0
            go_wp2_with (go_at_call 22; refine (rAsked _ _).mono ?_; rintro e0 w0 ⟨rfl, rfl⟩; rw [← HY.out])
            go_ret
            exact ⟨ret_bool E.out.symm, bel1 _ _⟩
          subst c0
          have E : Hid (right ⟨23, 0, 0, g, q, r, e, s, []⟩ = y) := Lib.hid (by simp [right, ← HBB.out, ← HY.out])
          go_wp2_with (go_at_call 22; refine (rAsked _ _).mono ?_; rintro e0 w0 ⟨rfl, rfl⟩; rw [← HY.out])
          go_ret
          exact ⟨ret_bool E.out.symm, bel1 _ _⟩
      have f18 : (k == 18) = false := by simp [k18]
      have f22 : (k == 22) = false := by simp [k22]
      have f23 : (k == 23) = false := by simp [k23]
      by_cases k17 : k = 17
      case neg =>
        have E : Hid (right ⟨k, v, c, g, q, r, e, s, []⟩ = false) := Lib.hid (by simp [right, K34.out, k17, k18, k22, k23])
        have f17 : (k == 17) = false := by simp [k17]
        have f17b : (k != 17) = true := by simp [k17]
        clear k17 k18 k22 k23
        go_wp2_with (go_at_call 22; refine (rAsked _ _).mono ?_; rintro e0 w0 ⟨rfl, rfl⟩; rw [← HY.out])
        go_ret
        exact ⟨ret_bool E.out.symm, bel1 _ _⟩
      subst k17
      clear k18 k22 k23 f18 f22 f23 f34
      by_cases v1 : v = 1
      · subst v1
        cases b with
        | false =>
          have E : Hid (right ⟨17, 1, c, g, q, r, e, s, []⟩ = false) := Lib.hid (by simp [right, ← HBB.out])
          go_wp2_with (go_at_call 22; refine (rAsked _ _).mono ?_; rintro e0 w0 ⟨rfl, rfl⟩; rw [← HY.out])
          go_ret
          exact ⟨ret_bool E.out.symm, bel1 _ _⟩
        | true =>
          by_cases c0 : c = 0
          case neg =>
            have E : Hid (right ⟨17, 1, c, g, q, r, e, s, []⟩ = false) := Lib.hid (by simp [right, c0])
            have f : (c == 0) = false := by simp [c0]
            clear c0
            go_wp2_with (go_at_call 22; refine (rAsked _ _).mono ?_; rintro e0 w0 ⟨rfl, rfl⟩; rw [← HY.out])
            go_ret
            exact ⟨ret_bool E.out.symm, bel1 _ _⟩
          subst c0
          have E : Hid (right ⟨17, 1, 0, g, q, r, e, s, []⟩ = (g == 0)) := Lib.hid (by simp [right, ← HBB.out])
          go_wp2_with (go_at_call 22; refine (rAsked _ _).mono ?_; rintro e0 w0 ⟨rfl, rfl⟩; rw [← HY.out])
          go_ret
          exact ⟨ret_bool E.out.symm, bel1 _ _⟩
      by_cases v2 : v = 2
      · subst v2
        cases b with
        | false =>
          have E : Hid (right ⟨17, 2, c, g, q, r, e, s, []⟩ = false) := Lib.hid (by simp [right, ← HBB.out])
          go_wp2_with (go_at_call 22; refine (rAsked _ _).mono ?_; rintro e0 w0 ⟨rfl, rfl⟩; rw [← HY.out])
          go_ret
          exact ⟨ret_bool E.out.symm, bel1 _ _⟩
        | true =>
          by_cases c0 : c > 0
          case neg =>
            have E : Hid (right ⟨17, 2, c, g, q, r, e, s, []⟩ = false) := Lib.hid (by simp [right]; intro _ h; omega)
            go_wp2_with (go_at_call 22; refine (rAsked _ _).mono ?_; rintro e0 w0 ⟨rfl, rfl⟩; rw [← HY.out])
            go_ret
            exact ⟨ret_bool E.out.symm, bel1 _ _⟩
          by_cases g0 : g = 0
          · subst g0
            have E : Hid (right ⟨17, 2, c, 0, q, r, e, s, []⟩ = true) := Lib.hid (by have : 0 < c := c0; simp [right, ← HBB.out, may, this])
            go_wp2_with (go_at_call 22; refine (rAsked _ _).mono ?_; rintro e0 w0 ⟨rfl, rfl⟩; rw [← HY.out])
            go_ret
            exact ⟨ret_bool E.out.symm, bel1 _ _⟩
          have fg : (g == 0) = false := by simp [g0]
          have E : Hid (right ⟨17, 2, c, g, q, r, e, s, []⟩ = y) := Lib.hid (by have : 0 < c := c0; simp [right, ← HBB.out, may, this, g0, ← HY.out])
          clear g0
          go_wp2_with (go_at_call 22; refine (rAsked _ _).mono ?_; rintro e0 w0 ⟨rfl, rfl⟩; rw [← HY.out])
          go_ret
          exact ⟨ret_bool E.out.symm, bel1 _ _⟩
      have fv1 : (v == 1) = false := by simp [v1]
      have fv2 : (v == 2) = false := by simp [v2]
      by_cases v3 : v = 3
      case neg =>
        have E : Hid (right ⟨17, v, c, g, q, r, e, s, []⟩ = false) := Lib.hid (by simp [right, v1, v2, v3])
        have fv3 : (v == 3) = false := by simp [v3]
        clear v1 v2 v3
        go_wp2_with (go_at_call 22; refine (rAsked _ _).mono ?_; rintro e0 w0 ⟨rfl, rfl⟩; rw [← HY.out])
        go_ret
        exact ⟨ret_bool E.out.symm, bel1 _ _⟩
      subst v3
      clear v1 v2 fv1 fv2
      by_cases r8 : r < 8
      case neg =>
        have E : Hid (right ⟨17, 3, c, g, q, r, e, s, []⟩ = false) := Lib.hid (by simp [right, r8])
        go_wp2_with (go_at_call 22; refine (rAsked _ _).mono ?_; rintro e0 w0 ⟨rfl, rfl⟩; rw [← HY.out])
        go_ret
        exact ⟨ret_bool E.out.symm, bel1 _ _⟩
      by_cases s64 : (s.length : Int) ≤ 64
      case neg =>
        have E : Hid (right ⟨17, 3, c, g, q, r, e, s, []⟩ = false) := Lib.hid (by have : ¬ s.length ≤ 64 := (by omega); simp [right, this])
        go_wp2_with (go_at_call 22; refine (rAsked _ _).mono ?_; rintro e0 w0 ⟨rfl, rfl⟩; rw [← HY.out])
        go_ret
        exact ⟨ret_bool E.out.symm, bel1 _ _⟩
      have S64 : Hid (s.length ≤ 64) := Lib.hid (by omega)
      cases y with
      | true =>
        have E : Hid (right ⟨17, 3, c, g, q, r, e, s, []⟩ = true) := Lib.hid (by simp [right, r8, S64.out, ← HY.out])
        go_wp2_with (go_at_call 22; refine (rAsked _ _).mono ?_; rintro e0 w0 ⟨rfl, rfl⟩; rw [← HY.out])
        go_ret
        exact ⟨ret_bool E.out.symm, bel1 _ _⟩
      | false =>
        by_cases g0 : g = 0
        case neg =>
          have E : Hid (right ⟨17, 3, c, g, q, r, e, s, []⟩ = false) := Lib.hid (by simp [right, g0, ← HY.out])
          have fg : (g == 0) = false := by simp [g0]
          clear g0
          go_wp2_with (go_at_call 22; refine (rAsked _ _).mono ?_; rintro e0 w0 ⟨rfl, rfl⟩; rw [← HY.out])
          go_ret
          exact ⟨ret_bool E.out.symm, bel1 _ _⟩
        subst g0
        have E : Hid (right ⟨17, 3, c, 0, q, r, e, s, []⟩ = ((s.length : Int) == 0)) := Lib.hid (by have e : ((s.length : Int) == 0) = (s.length == 0) := (by rw [Bool.eq_iff_iff, beq_iff_eq, beq_iff_eq]; omega); rw [e]; simp [right, r8, S64.out, ← HY.out])
        go_wp2_with (go_at_call 22; refine (rAsked _ _).mono ?_; rintro e0 w0 ⟨rfl, rfl⟩; rw [← HY.out])
        go_ret
        exact ⟨ret_bool E.out.symm, bel1 _ _⟩
end Go.Proofs.Ytmcnanoamgkljaa
/- Are a message's rows short? (stolonref05.Few.) -/
namespace Go.Proofs.Ytmcnanoamgkljaa
set_option linter.unusedVariables false
open Go.RowKit

/-- How many sources the first records have. -/
def cnt : List Rec → Nat
  | [] => 0
  | r :: l => r.srcs.length + cnt l
theorem cnt_take_succ {l : List Rec} {k : Nat} {r : Rec} (h : l[k]? = some r) : cnt (l.take (k + 1)) = cnt (l.take k) + r.srcs.length := by
  induction l generalizing k with
  | nil => simp at h
  | cons x l ih =>
    cases k with
    | zero => simp at h; subst h; simp [cnt]
    | succ k =>
      simp only [List.getElem?_cons_succ] at h
      simp only [List.take_succ_cons, cnt]
      rw [ih h]; omega
theorem cnt_take_le (l : List Rec) (k : Nat) : cnt (l.take k) ≤ cnt l := by
  induction l generalizing k with
  | nil => simp [cnt]
  | cons x l ih =>
    cases k with
    | zero => simp [cnt]
    | succ k => simp only [List.take_succ_cons, cnt]; have := ih k; omega
/-- Few records and sources. -/
def few (m : Msg) : Bool := decide (m.srcs.length + m.recs.length + cnt m.recs ≤ 3000)

set_option maxHeartbeats 4000000 in
theorem rFew (x : Msg) (sa ra : Option Addr) (sc rc : Nat) (w : World) (h1 : Ms w x sa ra) :
    Calls Try.prog 12 #[.agg #[.int .u8 x.kind, .int .i64 x.ver, .int .u8 x.code, .int .u32 x.grp, .bool x.quiet, .int .u8 x.rob, .int .u8 x.every, .slice sa x.srcs.length sc, .slice ra x.recs.length rc]] w fun e w' => e = .returned (.bool (few x)) ∧ Below w.heap.size w w' := by
  obtain ⟨_, _, _, _, _, _, _, _, i1, i2⟩ := id h1
  have HM := Lib.hid h1
  clear h1
  obtain ⟨k, v, c, g, q, r, e, s, l⟩ := x
  simp only at i1 i2 ⊢
  obtain ⟨n, hn⟩ : ∃ n, n = l.length := ⟨_, rfl⟩
  obtain ⟨m, hm⟩ : ∃ m, m = s.length := ⟨_, rfl⟩
  have HN := Lib.hid hn
  have HS := Lib.hid hm
  rw [← hn] at i2
  rw [← hm] at i1
  rw [← hn, ← hm]
  clear hn hm
  go_enter Try.func12, Try.ntmps12
  go_wp2
  go_loopw [3, 4] (fun t i wr => ∃ j : Nat, j ≤ n ∧ i = .int .i64 j ∧ t = .int .i64 ((m + n + cnt (l.take j) : Nat) : Int) ∧ (0 < j → m + n + cnt (l.take (j - 1)) ≤ 3000) ∧ wr = w.alloc (.cells #[.int .u8 k, .int .i64 v, .int .u8 c, .int .u32 g, .bool q, .int .u8 r, .int .u8 e, .slice sa m sc, .slice ra n rc] 27)) (fun _ i _ => n - (intOf i).toNat)
  case atStart => exact ⟨0, by omega, rfl, by simp [cnt], fun h => absurd h (by omega), rfl⟩
  case round =>
    obtain ⟨j, hj, rfl, rfl, hpre, rfl⟩ := hrel
    have HP := Lib.hid hpre
    clear hpre
    obtain ⟨t, ht⟩ : ∃ t, t = m + n + cnt (l.take j) := ⟨_, rfl⟩
    rw [← ht]
    have HT := Lib.hid ht
    clear ht
    by_cases hlt : j < n
    · by_cases h3 : t ≤ 3000
      · obtain ⟨x, hxk⟩ : ∃ x, l[j]? = some x := ⟨_, List.getElem?_eq_getElem (by have := HN.out; omega)⟩
        have HXK := Lib.hid hxk
        have hrs := HM.out.2.1
        rcases hrs with hrs | ⟨b1, o1, rfl, hrs⟩
        · simp only at hrs; subst hrs; simp at hxk
        obtain ⟨ax, cx, x0, x1, x2, _, x4, x5, hxl⟩ := hrs j x hxk
        clear hrs hxk
        have l1 := cell_lt x0
        simp only at l1
        have i1 : (0 : Int) ≤ (j : Int) := by omega
        have i2 : (j : Int) < (n : Int) := by omega
        obtain ⟨u, hu⟩ : ∃ u, u = x.srcs.length := ⟨_, rfl⟩
        have HU := Lib.hid hu
        rw [← hu] at x2 hxl
        clear hu
        go_wp2
        go_roundw
        case rel => exact ⟨j + 1, by omega, by go_num, by rw [cnt_take_succ HXK.out, ← HU.out]; have := HT.out; go_num, fun _ => by have := HT.out; simp; omega, by first | rfl | trivial⟩
        case measure => simp [intOf]; omega
      · have h3' : ¬ ((t : Int) ≤ 3000) := by omega
        have E : Hid (few ⟨k, v, c, g, q, r, e, s, l⟩ = false) := Lib.hid (by
          have h1 := cnt_take_le l j
          have h2 := HT.out
          have h3 := HN.out
          have h4 := HS.out
          unfold few; rw [decide_eq_false_iff_not]; simp only; omega)
        go_wp2
        go_ret
        exact ⟨ret_bool E.out.symm, bel1 _ _⟩
    · obtain rfl : j = n := by omega
      have E : Hid (few ⟨k, v, c, g, q, r, e, s, l⟩ = decide ((t : Int) ≤ 3000)) := Lib.hid (by
        have h2 := HT.out
        have h3 := HN.out
        have h4 := HS.out
        rw [List.take_of_length_le (by omega)] at h2
        unfold few; simp only
        by_cases h : t ≤ 3000
        · rw [decide_eq_true (by omega), decide_eq_true (by omega)]
        · rw [decide_eq_false (by omega), decide_eq_false (by omega)])
      go_wp2
      go_ret
      exact ⟨ret_bool E.out.symm, bel1 _ _⟩
end Go.Proofs.Ytmcnanoamgkljaa
