/- Whether two messages are the same: igmp.Same. -/
import Derived.Test.YtmcnanoamgkljaaQ0
namespace Go.Proofs.Ytmcnanoamgkljaa
set_option linter.unusedVariables false
open Go.RowKit

set_option maxHeartbeats 4000000 in
theorem gSame (x y : Msg) (sa ra sb rb : Option Addr) (sc rc sd rd : Nat) (w : World) (h1 : Ms w x sa ra) (h2 : Ms w y sb rb) :
    Calls Try.prog 18 #[.agg #[.int .u8 x.kind, .int .i64 x.ver, .int .u8 x.code, .int .u32 x.grp, .bool x.quiet, .int .u8 x.rob, .int .u8 x.every, .slice sa x.srcs.length sc, .slice ra x.recs.length rc], .agg #[.int .u8 y.kind, .int .i64 y.ver, .int .u8 y.code, .int .u32 y.grp, .bool y.quiet, .int .u8 y.rob, .int .u8 y.every, .slice sb y.srcs.length sd, .slice rb y.recs.length rd]] w fun e w' => e = .returned (.bool (sameM x y)) ∧ Below w.heap.size w w' := by
  obtain ⟨h1, h3, _, _, _, _, _, _, i1, i2⟩ := h1
  obtain ⟨h2, h4, _⟩ := h2
  obtain ⟨k, v, c, g, q, r, e, s, l⟩ := x
  obtain ⟨k', v', c', g', q', r', e', s', l'⟩ := y
  simp only at h1 h2 h3 h4 i1 i2 ⊢
  by_cases e0 : k = k'
  case neg =>
    have e : sameM ⟨k, v, c, g, q, r, e, s, l⟩ ⟨k', v', c', g', q', r', e', s', l'⟩ = false := by simp [sameM, e0]
    rw [e]
    clear e
    have f0 : ((k : Int) == k') = false := by simp [e0]
    clear e0
    clear h1 h2 h3 h4 i1 i2
    go_enter Try.func18, Try.ntmps18
    go_wp2
    go_ret
    exact ⟨rfl, bel2 _ _ _⟩
  subst e0
  by_cases e1 : v = v'
  case neg =>
    have e : sameM ⟨k, v, c, g, q, r, e, s, l⟩ ⟨k, v', c', g', q', r', e', s', l'⟩ = false := by simp [sameM, e1]
    rw [e]
    clear e
    have f0 : ((k : Int) == k) = true := by simp
    have f1 : ((v : Int) == v') = false := by simp [e1]
    clear e1
    clear h1 h2 h3 h4 i1 i2
    go_enter Try.func18, Try.ntmps18
    go_wp2
    go_ret
    exact ⟨rfl, bel2 _ _ _⟩
  subst e1
  by_cases e2 : c = c'
  case neg =>
    have e : sameM ⟨k, v, c, g, q, r, e, s, l⟩ ⟨k, v, c', g', q', r', e', s', l'⟩ = false := by simp [sameM, e2]
    rw [e]
    clear e
    have f0 : ((k : Int) == k) = true := by simp
    have f1 : ((v : Int) == v) = true := by simp
    have f2 : ((c : Int) == c') = false := by simp [e2]
    clear e2
    clear h1 h2 h3 h4 i1 i2
    go_enter Try.func18, Try.ntmps18
    go_wp2
    go_ret
    exact ⟨rfl, bel2 _ _ _⟩
  subst e2
  by_cases e3 : g = g'
  case neg =>
    have e : sameM ⟨k, v, c, g, q, r, e, s, l⟩ ⟨k, v, c, g', q', r', e', s', l'⟩ = false := by simp [sameM, e3]
    rw [e]
    clear e
    have f0 : ((k : Int) == k) = true := by simp
    have f1 : ((v : Int) == v) = true := by simp
    have f2 : ((c : Int) == c) = true := by simp
    have f3 : ((g : Int) == g') = false := by simp [e3]
    clear e3
    clear h1 h2 h3 h4 i1 i2
    go_enter Try.func18, Try.ntmps18
    go_wp2
    go_ret
    exact ⟨rfl, bel2 _ _ _⟩
  subst e3
  by_cases e4 : q = q'
  case neg =>
    have e : sameM ⟨k, v, c, g, q, r, e, s, l⟩ ⟨k, v, c, g, q', r', e', s', l'⟩ = false := by simp [sameM, e4]
    rw [e]
    clear e
    have f0 : ((k : Int) == k) = true := by simp
    have f1 : ((v : Int) == v) = true := by simp
    have f2 : ((c : Int) == c) = true := by simp
    have f3 : ((g : Int) == g) = true := by simp
    cases q <;> cases q' <;> first | exact absurd rfl e4 | (
      clear h1 h2 h3 h4 i1 i2
      go_enter Try.func18, Try.ntmps18
      go_wp2
      go_ret
      exact ⟨rfl, bel2 _ _ _⟩)
  subst e4
  by_cases e5 : r = r'
  case neg =>
    have e : sameM ⟨k, v, c, g, q, r, e, s, l⟩ ⟨k, v, c, g, q, r', e', s', l'⟩ = false := by simp [sameM, e5]
    rw [e]
    clear e
    have f0 : ((k : Int) == k) = true := by simp
    have f1 : ((v : Int) == v) = true := by simp
    have f2 : ((c : Int) == c) = true := by simp
    have f3 : ((g : Int) == g) = true := by simp
    have f5 : ((r : Int) == r') = false := by simp [e5]
    clear e5
    clear h1 h2 h3 h4 i1 i2
    go_enter Try.func18, Try.ntmps18
    go_wp2
    go_ret
    exact ⟨rfl, bel2 _ _ _⟩
  subst e5
  by_cases e6 : e = e'
  case neg =>
    have e : sameM ⟨k, v, c, g, q, r, e, s, l⟩ ⟨k, v, c, g, q, r, e', s', l'⟩ = false := by simp [sameM, e6]
    rw [e]
    clear e
    have f0 : ((k : Int) == k) = true := by simp
    have f1 : ((v : Int) == v) = true := by simp
    have f2 : ((c : Int) == c) = true := by simp
    have f3 : ((g : Int) == g) = true := by simp
    have f5 : ((r : Int) == r) = true := by simp
    have f6 : ((e : Int) == e') = false := by simp [e6]
    clear e6
    clear h1 h2 h3 h4 i1 i2
    go_enter Try.func18, Try.ntmps18
    go_wp2
    go_ret
    exact ⟨rfl, bel2 _ _ _⟩
  subst e6
  have f0 : ((k : Int) == k) = true := by simp
  have f1 : ((v : Int) == v) = true := by simp
  have f2 : ((c : Int) == c) = true := by simp
  have f3 : ((g : Int) == g) = true := by simp
  have f5 : ((r : Int) == r) = true := by simp
  have f6 : ((e : Int) == e) = true := by simp
  have H1 := Lib.hid h1
  have H2 := Lib.hid h2
  have H3 := Lib.hid h3
  have H4 := Lib.hid h4
  have I1 := Lib.hid i1
  have I2 := Lib.hid i2
  clear h1 h2 h3 h4 i1 i2
  by_cases e7 : s = s'
  case neg =>
    have e : sameM ⟨k, v, c, g, q, r, e, s, l⟩ ⟨k, v, c, g, q, r, e, s', l'⟩ = false := by simp [sameM, e7]
    rw [e]
    have D := Lib.hid (decide_eq_false e7)
    clear e e7
    go_enter Try.func18, Try.ntmps18
    go_wp2_with (first | (go_at_call 33; refine (lEq sa sb _ _ sc sd s s' _ rfl rfl (by have := I1.out; omega) (H1.out.below (bel2 _ _ _)) (H2.out.below (bel2 _ _ _))).mono ?_; rintro e w1 ⟨rfl, hb⟩; rw [D.out]; have HB := Lib.hid (bel_up (bel2 _ _ _) hb); clear hb))
    go_ret
    exact ⟨rfl, HB.out⟩
  subst e7
  have e : sameM ⟨k, v, c, g, q, r, e, s, l⟩ ⟨k, v, c, g, q, r, e, s, l'⟩ = sameL l l' := by simp [sameM]
  rw [e]
  clear e
  obtain ⟨ds, hds⟩ : ∃ ds, ds = decide (s = s) := ⟨_, rfl⟩
  have D : Hid (decide (s = s) = true) := Lib.hid (by simp)
  clear hds ds
  go_enter Try.func18, Try.ntmps18
  go_wp2_with (first
    | (go_at_call 33; refine (lEq sa sb _ _ sc sd s s _ rfl rfl (by have := I1.out; omega) (H1.out.below (bel2 _ _ _)) (H2.out.below (bel2 _ _ _))).mono ?_; rintro e w1 ⟨rfl, hb⟩; rw [D.out]; have c1 : w1.cell? ⟨w.heap.size, 8, none⟩ = some (.slice ra l.length rc) := (box2 hb).1 8; have c2 : w1.cell? ⟨w.heap.size + 1, 8, none⟩ = some (.slice rb l'.length rd) := (box2 hb).2 8; have HB := Lib.hid (bel_up (bel2 _ _ _) hb); clear hb)
    | (go_at_call 34; refine (lEqF ra rb rc rd l l' _ I2.out (H3.out.below HB.out) (H4.out.below HB.out)).mono ?_; rintro e w2 ⟨rfl, hb⟩; have HB2 := Lib.hid (bel_up HB.out hb); clear hb))
  go_ret
  exact ⟨rfl, HB2.out⟩
end Go.Proofs.Ytmcnanoamgkljaa
/- Whether two messages are the same: the document's own answer (stolonref05.Same). -/
namespace Go.Proofs.Ytmcnanoamgkljaa
set_option linter.unusedVariables false
open Go.RowKit

set_option maxHeartbeats 4000000 in
theorem rSameM (x y : Msg) (sa ra sb rb : Option Addr) (sc rc sd rd : Nat) (w : World) (h1 : Ms w x sa ra) (h2 : Ms w y sb rb) :
    Calls Try.prog 19 #[.agg #[.int .u8 x.kind, .int .i64 x.ver, .int .u8 x.code, .int .u32 x.grp, .bool x.quiet, .int .u8 x.rob, .int .u8 x.every, .slice sa x.srcs.length sc, .slice ra x.recs.length rc], .agg #[.int .u8 y.kind, .int .i64 y.ver, .int .u8 y.code, .int .u32 y.grp, .bool y.quiet, .int .u8 y.rob, .int .u8 y.every, .slice sb y.srcs.length sd, .slice rb y.recs.length rd]] w fun e w' => e = .returned (.bool (sameM x y)) ∧ Below w.heap.size w w' := by
  obtain ⟨h1, h3, _, _, _, _, _, _, i1, i2⟩ := h1
  obtain ⟨h2, h4, _⟩ := h2
  obtain ⟨k, v, c, g, q, r, e, s, l⟩ := x
  obtain ⟨k', v', c', g', q', r', e', s', l'⟩ := y
  simp only at h1 h2 h3 h4 i1 i2 ⊢
  by_cases e0 : k = k'
  case neg =>
    have e : sameM ⟨k, v, c, g, q, r, e, s, l⟩ ⟨k', v', c', g', q', r', e', s', l'⟩ = false := by simp [sameM, e0]
    rw [e]
    clear e
    have f0 : ((k : Int) == k') = false := by simp [e0]
    clear e0
    clear h1 h2 h3 h4 i1 i2
    go_enter Try.func19, Try.ntmps19
    go_wp2
    go_ret
    exact ⟨rfl, bel2 _ _ _⟩
  subst e0
  by_cases e1 : v = v'
  case neg =>
    have e : sameM ⟨k, v, c, g, q, r, e, s, l⟩ ⟨k, v', c', g', q', r', e', s', l'⟩ = false := by simp [sameM, e1]
    rw [e]
    clear e
    have f0 : ((k : Int) == k) = true := by simp
    have f1 : ((v : Int) == v') = false := by simp [e1]
    clear e1
    clear h1 h2 h3 h4 i1 i2
    go_enter Try.func19, Try.ntmps19
    go_wp2
    go_ret
    exact ⟨rfl, bel2 _ _ _⟩
  subst e1
  by_cases e2 : c = c'
  case neg =>
    have e : sameM ⟨k, v, c, g, q, r, e, s, l⟩ ⟨k, v, c', g', q', r', e', s', l'⟩ = false := by simp [sameM, e2]
    rw [e]
    clear e
    have f0 : ((k : Int) == k) = true := by simp
    have f1 : ((v : Int) == v) = true := by simp
    have f2 : ((c : Int) == c') = false := by simp [e2]
    clear e2
    clear h1 h2 h3 h4 i1 i2
    go_enter Try.func19, Try.ntmps19
    go_wp2
    go_ret
    exact ⟨rfl, bel2 _ _ _⟩
  subst e2
  by_cases e3 : g = g'
  case neg =>
    have e : sameM ⟨k, v, c, g, q, r, e, s, l⟩ ⟨k, v, c, g', q', r', e', s', l'⟩ = false := by simp [sameM, e3]
    rw [e]
    clear e
    have f0 : ((k : Int) == k) = true := by simp
    have f1 : ((v : Int) == v) = true := by simp
    have f2 : ((c : Int) == c) = true := by simp
    have f3 : ((g : Int) == g') = false := by simp [e3]
    clear e3
    clear h1 h2 h3 h4 i1 i2
    go_enter Try.func19, Try.ntmps19
    go_wp2
    go_ret
    exact ⟨rfl, bel2 _ _ _⟩
  subst e3
  by_cases e4 : q = q'
  case neg =>
    have e : sameM ⟨k, v, c, g, q, r, e, s, l⟩ ⟨k, v, c, g, q', r', e', s', l'⟩ = false := by simp [sameM, e4]
    rw [e]
    clear e
    have f0 : ((k : Int) == k) = true := by simp
    have f1 : ((v : Int) == v) = true := by simp
    have f2 : ((c : Int) == c) = true := by simp
    have f3 : ((g : Int) == g) = true := by simp
    cases q <;> cases q' <;> first | exact absurd rfl e4 | (
      clear h1 h2 h3 h4 i1 i2
      go_enter Try.func19, Try.ntmps19
      go_wp2
      go_ret
      exact ⟨rfl, bel2 _ _ _⟩)
  subst e4
  by_cases e5 : r = r'
  case neg =>
    have e : sameM ⟨k, v, c, g, q, r, e, s, l⟩ ⟨k, v, c, g, q, r', e', s', l'⟩ = false := by simp [sameM, e5]
    rw [e]
    clear e
    have f0 : ((k : Int) == k) = true := by simp
    have f1 : ((v : Int) == v) = true := by simp
    have f2 : ((c : Int) == c) = true := by simp
    have f3 : ((g : Int) == g) = true := by simp
    have f5 : ((r : Int) == r') = false := by simp [e5]
    clear e5
    clear h1 h2 h3 h4 i1 i2
    go_enter Try.func19, Try.ntmps19
    go_wp2
    go_ret
    exact ⟨rfl, bel2 _ _ _⟩
  subst e5
  by_cases e6 : e = e'
  case neg =>
    have e : sameM ⟨k, v, c, g, q, r, e, s, l⟩ ⟨k, v, c, g, q, r, e', s', l'⟩ = false := by simp [sameM, e6]
    rw [e]
    clear e
    have f0 : ((k : Int) == k) = true := by simp
    have f1 : ((v : Int) == v) = true := by simp
    have f2 : ((c : Int) == c) = true := by simp
    have f3 : ((g : Int) == g) = true := by simp
    have f5 : ((r : Int) == r) = true := by simp
    have f6 : ((e : Int) == e') = false := by simp [e6]
    clear e6
    clear h1 h2 h3 h4 i1 i2
    go_enter Try.func19, Try.ntmps19
    go_wp2
    go_ret
    exact ⟨rfl, bel2 _ _ _⟩
  subst e6
  have f0 : ((k : Int) == k) = true := by simp
  have f1 : ((v : Int) == v) = true := by simp
  have f2 : ((c : Int) == c) = true := by simp
  have f3 : ((g : Int) == g) = true := by simp
  have f5 : ((r : Int) == r) = true := by simp
  have f6 : ((e : Int) == e) = true := by simp
  have H1 := Lib.hid h1
  have H2 := Lib.hid h2
  have H3 := Lib.hid h3
  have H4 := Lib.hid h4
  have I1 := Lib.hid i1
  have I2 := Lib.hid i2
  clear h1 h2 h3 h4 i1 i2
  by_cases e7 : s = s'
  case neg =>
    have e : sameM ⟨k, v, c, g, q, r, e, s, l⟩ ⟨k, v, c, g, q, r, e, s', l'⟩ = false := by simp [sameM, e7]
    rw [e]
    have D := Lib.hid (decide_eq_false e7)
    clear e e7
    go_enter Try.func19, Try.ntmps19
    go_wp2_with (first | (go_at_call 36; refine (rRows sa sb _ _ sc sd s s' _ rfl rfl (by have := I1.out; omega) (H1.out.below (bel2 _ _ _)) (H2.out.below (bel2 _ _ _))).mono ?_; rintro e w1 ⟨rfl, hb⟩; rw [D.out]; have HB := Lib.hid (bel_up (bel2 _ _ _) hb); clear hb))
    go_ret
    exact ⟨rfl, HB.out⟩
  subst e7
  have e : sameM ⟨k, v, c, g, q, r, e, s, l⟩ ⟨k, v, c, g, q, r, e, s, l'⟩ = sameL l l' := by simp [sameM]
  rw [e]
  clear e
  obtain ⟨ds, hds⟩ : ∃ ds, ds = decide (s = s) := ⟨_, rfl⟩
  have D : Hid (decide (s = s) = true) := Lib.hid (by simp)
  clear hds ds
  go_enter Try.func19, Try.ntmps19
  go_wp2_with (first
    | (go_at_call 36; refine (rRows sa sb _ _ sc sd s s _ rfl rfl (by have := I1.out; omega) (H1.out.below (bel2 _ _ _)) (H2.out.below (bel2 _ _ _))).mono ?_; rintro e w1 ⟨rfl, hb⟩; rw [D.out]; have c1 : w1.cell? ⟨w.heap.size, 8, none⟩ = some (.slice ra l.length rc) := (box2 hb).1 8; have c2 : w1.cell? ⟨w.heap.size + 1, 8, none⟩ = some (.slice rb l'.length rd) := (box2 hb).2 8; have HB := Lib.hid (bel_up (bel2 _ _ _) hb); clear hb)
    | (go_at_call 37; refine (rRecs ra rb rc rd l l' _ I2.out (H3.out.below HB.out) (H4.out.below HB.out)).mono ?_; rintro e w2 ⟨rfl, hb⟩; have HB2 := Lib.hid (bel_up HB.out hb); clear hb))
  go_ret
  exact ⟨rfl, HB2.out⟩
end Go.Proofs.Ytmcnanoamgkljaa
/- Which groups are asked about, and which records a report may have: the program's answers, and the document's own. -/
namespace Go.Proofs.Ytmcnanoamgkljaa
set_option linter.unusedVariables false
open Go.RowKit

/-- Is a group asked about? -/
def asked (g : Int) : Bool := decide (3758096640 ≤ g ∧ g ≤ 4026531839)
/-- May a query have it? -/
def may (g : Int) : Bool := (g == 0) || asked g
/-- May a report have it? -/
def okR (r : Rec) : Bool := decide (1 ≤ r.typ) && decide (r.typ ≤ 6) && asked r.grp && decide (r.srcs.length ≤ 64)
/-- May a report have these? -/
def okL (l : List Rec) : Bool := decide (l.length ≤ 32) && l.all okR

theorem aIsGroup (g : Int) (w : World) :
    Calls Try.prog 50 #[.int .u32 g] w fun e w' => e = .returned (.bool (decide (3758096384 ≤ g ∧ g ≤ 4026531839))) ∧ w = w' := by
  by_cases h1 : 3758096384 ≤ g
  · by_cases h2 : g ≤ 4026531839
    · rw [decide_eq_true ⟨h1, h2⟩]
      go_enter Try.func50, Try.ntmps50
      go_wp2
      go_ret
      exact ⟨rfl, rfl⟩
    · rw [decide_eq_false (fun e => h2 e.2)]
      go_enter Try.func50, Try.ntmps50
      go_wp2
      go_ret
      exact ⟨rfl, rfl⟩
  · rw [decide_eq_false (fun e => h1 e.1)]
    go_enter Try.func50, Try.ntmps50
    go_wp2
    go_ret
    exact ⟨rfl, rfl⟩
theorem aIsLocal (g : Int) (w : World) :
    Calls Try.prog 51 #[.int .u32 g] w fun e w' => e = .returned (.bool (decide (3758096384 ≤ g ∧ g ≤ 3758096639))) ∧ w = w' := by
  by_cases h1 : 3758096384 ≤ g
  · by_cases h2 : g ≤ 3758096639
    · rw [decide_eq_true ⟨h1, h2⟩]
      go_enter Try.func51, Try.ntmps51
      go_wp2
      go_ret
      exact ⟨rfl, rfl⟩
    · rw [decide_eq_false (fun e => h2 e.2)]
      go_enter Try.func51, Try.ntmps51
      go_wp2
      go_ret
      exact ⟨rfl, rfl⟩
  · rw [decide_eq_false (fun e => h1 e.1)]
    go_enter Try.func51, Try.ntmps51
    go_wp2
    go_ret
    exact ⟨rfl, rfl⟩
theorem aIsAsked (g : Int) (w : World) :
    Calls Try.prog 31 #[.int .u32 g] w fun e w' => e = .returned (.bool (asked g)) ∧ w = w' := by
  by_cases h1 : 3758096384 ≤ g ∧ g ≤ 4026531839
  · by_cases h2 : 3758096384 ≤ g ∧ g ≤ 3758096639
    · have e : asked g = false := by unfold asked; rw [decide_eq_false_iff_not]; omega
      have D1 := Lib.hid (decide_eq_true h1)
      have D2 := Lib.hid (decide_eq_true h2)
      rw [e]
      clear h1 h2 e
      go_enter Try.func31, Try.ntmps31
      go_wp2_with (first
        | (go_at_call 50; refine (aIsGroup g _).mono ?_; rintro e w1 ⟨rfl, rfl⟩; rw [D1.out])
        | (go_at_call 51; refine (aIsLocal g _).mono ?_; rintro e w2 ⟨rfl, rfl⟩; rw [D2.out]))
      go_ret
      exact ⟨rfl, rfl⟩
    · have e : asked g = true := by unfold asked; rw [decide_eq_true_eq]; omega
      have D1 := Lib.hid (decide_eq_true h1)
      have D2 := Lib.hid (decide_eq_false h2)
      rw [e]
      clear h1 h2 e
      go_enter Try.func31, Try.ntmps31
      go_wp2_with (first
        | (go_at_call 50; refine (aIsGroup g _).mono ?_; rintro e w1 ⟨rfl, rfl⟩; rw [D1.out])
        | (go_at_call 51; refine (aIsLocal g _).mono ?_; rintro e w2 ⟨rfl, rfl⟩; rw [D2.out]))
      go_ret
      exact ⟨rfl, rfl⟩
  · have e : asked g = false := by unfold asked; rw [decide_eq_false_iff_not]; omega
    have D1 := Lib.hid (decide_eq_false h1)
    rw [e]
    clear h1 e
    go_enter Try.func31, Try.ntmps31
    go_wp2_with (go_at_call 50; refine (aIsGroup g _).mono ?_; rintro e w1 ⟨rfl, rfl⟩; rw [D1.out])
    go_ret
    exact ⟨rfl, rfl⟩
theorem rAsked (g : Int) (w : World) :
    Calls Try.prog 22 #[.int .u32 g] w fun e w' => e = .returned (.bool (asked g)) ∧ w = w' := by
  unfold asked
  by_cases h1 : 3758096640 ≤ g
  · by_cases h2 : g ≤ 4026531839
    · rw [decide_eq_true ⟨h1, h2⟩]
      go_enter Try.func22, Try.ntmps22
      go_wp2
      go_ret
      exact ⟨rfl, rfl⟩
    · rw [decide_eq_false (fun e => h2 e.2)]
      go_enter Try.func22, Try.ntmps22
      go_wp2
      go_ret
      exact ⟨rfl, rfl⟩
  · rw [decide_eq_false (fun e => h1 e.1)]
    go_enter Try.func22, Try.ntmps22
    go_wp2
    go_ret
    exact ⟨rfl, rfl⟩
theorem gMayAsk (g : Int) (w : World) :
    Calls Try.prog 49 #[.int .u32 g] w fun e w' => e = .returned (.bool (may g)) ∧ w = w' := by
  by_cases h : g = 0
  · subst h
    rw [show may 0 = true from rfl]
    go_enter Try.func49, Try.ntmps49
    go_wp2
    go_ret
    exact ⟨rfl, rfl⟩
  · have f : ((g : Int) == 0) = false := by simp [h]
    have e : may g = asked g := by unfold may; rw [f, Bool.false_or]
    rw [e]
    clear h e
    go_enter Try.func49, Try.ntmps49
    go_wp2_with (go_at_call 31; refine (aIsAsked g _).mono ?_; rintro e w1 ⟨rfl, rfl⟩)
    go_ret
    exact ⟨rfl, rfl⟩

theorem gIsWrong (r : Rec) (a : Option Addr) (c : Nat) (w : World) (hl : r.srcs.length ≤ 1125899906842624) :
    Calls Try.prog 53 #[.agg #[.int .u8 r.typ, .int .u32 r.grp, .slice a r.srcs.length c]] w fun e w' => e = .returned (.bool (!okR r)) ∧ Below w.heap.size w w' := by
  obtain ⟨t, g, s⟩ := r
  simp only at hl ⊢
  by_cases h1 : t < 1
  · have e : (!okR ⟨t, g, s⟩) = true := by
      have : ¬ 1 ≤ t := by omega
      simp [okR, this]
    rw [e]; clear e
    go_enter Try.func53, Try.ntmps53
    go_wp2
    go_ret
    exact ⟨rfl, bel1 _ _⟩
  by_cases h2 : t > 6
  · have e : (!okR ⟨t, g, s⟩) = true := by
      have : ¬ t ≤ 6 := by omega
      simp [okR, this]
    rw [e]; clear e
    go_enter Try.func53, Try.ntmps53
    go_wp2
    go_ret
    exact ⟨rfl, bel1 _ _⟩
  by_cases h3 : asked g = true
  · have e : (!okR ⟨t, g, s⟩) = decide ((s.length : Int) > 64) := by
      have a1 : 1 ≤ t := by omega
      have a2 : t ≤ 6 := by omega
      by_cases h : s.length ≤ 64
      · have : ¬ ((s.length : Int) > 64) := by omega
        simp [okR, a1, a2, h3, h, this]
      · have : (s.length : Int) > 64 := by omega
        simp [okR, a1, a2, h3, h, this]
    rw [e]; clear e
    have H3 := Lib.hid h3
    clear h3
    go_enter Try.func53, Try.ntmps53
    go_wp2_with (go_at_call 31; refine (aIsAsked g _).mono ?_; rintro e w1 ⟨rfl, rfl⟩; rw [H3.out])
    go_ret
    exact ⟨rfl, bel1 _ _⟩
  · have h3' : asked g = false := by simpa using h3
    have e : (!okR ⟨t, g, s⟩) = true := by simp [okR, h3']
    rw [e]; clear e h3
    have H3 := Lib.hid h3'
    clear h3'
    go_enter Try.func53, Try.ntmps53
    go_wp2_with (go_at_call 31; refine (aIsAsked g _).mono ?_; rintro e w1 ⟨rfl, rfl⟩; rw [H3.out])
    go_ret
    exact ⟨rfl, bel1 _ _⟩

def AllTo (l : List Rec) (k : Nat) : Prop := ∀ j r, j < k → l[j]? = some r → okR r = true
theorem all_of {l : List Rec} {n : Nat} (hn : l.length = n) (h : AllTo l n) : l.all okR = true := by
  rw [List.all_eq_true]
  intro r hr
  obtain ⟨j, hj, e⟩ := List.mem_iff_getElem.1 hr
  exact h j r (by omega) (by rw [List.getElem?_eq_getElem hj, e])
theorem all_not {l : List Rec} {k : Nat} {r : Rec} (h : l[k]? = some r) (e : okR r = false) : l.all okR = false := by
  cases e' : l.all okR with
  | false => rfl
  | true =>
    rw [List.all_eq_true] at e'
    have := e' r (List.mem_of_getElem? h)
    rw [this] at e; cases e
theorem allTo_next {l : List Rec} {k : Nat} (h : AllTo l k) {r : Rec} (hr : l[k]? = some r) (e : okR r = true) : AllTo l (k + 1) := by
  intro j r' hj hr'
  rcases Nat.lt_succ_iff_lt_or_eq.1 hj with hj | rfl
  · exact h j r' hj hr'
  · rw [hr] at hr'; cases hr'; exact e

set_option maxHeartbeats 1000000 in
theorem lIndexF1 (b o n c : Nat) (l : List Rec) (w : World) (hn : l.length = n) (hm : n ≤ 1125899906842624) (h1 : ∀ (k : Nat) r, l[k]? = some r → RecAt w b (o + k * 3) r) :
    Calls Try.prog 62 #[.slice (some ⟨b, o, none⟩) n c, .func (.func 53) #[] #[]] w
      fun e w' => ∃ z : Int, e = .returned (.int .i64 z) ∧ decide (0 ≤ z) = (!l.all okR) ∧ Below w.heap.size w w' := by
  have HN := Lib.hid hn
  have H1 := Lib.hid h1
  clear hn h1
  go_enter Try.func62, Try.ntmps62
  go_wp2
  go_loopw [8] (fun i wr => ∃ k : Nat, k ≤ n ∧ i = .int .i64 k ∧ AllTo l k ∧ Below w.heap.size w wr) (fun i _ => n - (intOf i).toNat)
  case atStart => exact ⟨0, by omega, rfl, fun j r h => absurd h (by omega), Below.refl _ _⟩
  case round =>
    obtain ⟨k, hk, rfl, hpre, hbel⟩ := hrel
    have HP := Lib.hid hpre
    have HB := Lib.hid hbel
    clear hpre hbel
    by_cases hlt : k < n
    · obtain ⟨x, hxk⟩ : ∃ x, l[k]? = some x := ⟨_, List.getElem?_eq_getElem (by have := HN.out; omega)⟩
      obtain ⟨ax, cx, x0, x1, x2, _, _, _, hxl⟩ := (H1.out k x hxk).below HB.out
      have i1 : (0 : Int) ≤ (k : Int) := by omega
      have i2 : (k : Int) < (n : Int) := by omega
      have HXK := Lib.hid hxk
      have HXL := Lib.hid hxl
      clear hxk hxl
      obtain ⟨s, hs⟩ : ∃ s, s = okR x := ⟨_, rfl⟩
      cases s with
      | true =>
        have HS := Lib.hid hs
        clear hs
        go_wp2_with (go_at_call 53; refine (gIsWrong x ax cx _ HXL.out).mono ?_; rintro e w1 ⟨rfl, hb⟩; rw [← HS.out]; have HB2 := Lib.hid (bel_up HB.out hb); clear hb)
        go_roundw
        case rel => exact ⟨k + 1, by omega, by go_num, allTo_next HP.out HXK.out HS.out.symm, HB2.out⟩
        case measure => simp [intOf]; omega
      | false =>
        have HS := Lib.hid hs
        clear hs
        go_wp2_with (go_at_call 53; refine (gIsWrong x ax cx _ HXL.out).mono ?_; rintro e w1 ⟨rfl, hb⟩; rw [← HS.out]; have HB2 := Lib.hid (bel_up HB.out hb); clear hb)
        go_ret
        exact ⟨k, rfl, by rw [all_not HXK.out HS.out.symm]; simp, HB2.out⟩
    · obtain rfl : k = n := by omega
      have HF := Lib.hid (all_of HN.out HP.out)
      go_wp2
      go_ret
      exact ⟨-1, rfl, by rw [HF.out]; rfl, HB.out⟩
theorem lIndexF (a : Option Addr) (c : Nat) (l : List Rec) (w : World) (hm : l.length ≤ 1125899906842624) (h1 : Rs w a l) :
    Calls Try.prog 62 #[.slice a l.length c, .func (.func 53) #[] #[]] w
      fun e w' => ∃ z : Int, e = .returned (.int .i64 z) ∧ decide (0 ≤ z) = (!l.all okR) ∧ Below w.heap.size w w' := by
  rcases h1 with rfl | ⟨b1, o1, rfl, c1⟩
  · simp only [List.length_nil, List.all_nil, Bool.not_true]
    go_enter Try.func62, Try.ntmps62
    go_wp2
    refine wp_loop_rounds 1 ?_
    rw [rounds_succ]
    go_wp2
    go_ret
    exact ⟨-1, rfl, rfl, Below.refl _ _⟩
  · exact lIndexF1 b1 o1 _ c l w rfl hm c1
theorem lContainsF (a : Option Addr) (c : Nat) (l : List Rec) (w : World) (hm : l.length ≤ 1125899906842624) (h1 : Rs w a l) :
    Calls Try.prog 52 #[.slice a l.length c, .func (.func 53) #[] #[]] w
      fun e w' => e = .returned (.bool (!l.all okR)) ∧ Below w.heap.size w w' := by
  have H1 := Lib.hid h1
  have HM := Lib.hid hm
  clear h1 hm
  go_enter Try.func52, Try.ntmps52
  go_wp2_with (go_at_call 62; refine (lIndexF a c l _ HM.out H1.out).mono ?_; rintro e w1 ⟨z, rfl, hz, hb⟩; have HZ := Lib.hid hz; have HB := Lib.hid hb; clear hz hb)
  go_ret
  exact ⟨by rw [← HZ.out]; rfl, HB.out⟩
theorem gAreRecords (a : Option Addr) (c : Nat) (l : List Rec) (w : World) (hm : l.length ≤ 1125899906842624) (h1 : Rs w a l) :
    Calls Try.prog 32 #[.slice a l.length c] w fun e w' => e = .returned (.bool (okL l)) ∧ Below w.heap.size w w' := by
  have H1 := Lib.hid h1
  have HM := Lib.hid hm
  clear h1 hm
  by_cases h : (l.length : Int) ≤ 32
  · have e : okL l = l.all okR := by
      have : l.length ≤ 32 := by omega
      simp [okL, this]
    rw [e]; clear e
    obtain ⟨s, hs⟩ : ∃ s, s = l.all okR := ⟨_, rfl⟩
    rw [← hs]
    have HS := Lib.hid hs
    clear hs
    cases s with
    | true =>
      go_enter Try.func32, Try.ntmps32
      go_wp2_with (go_at_call 52; refine (lContainsF a c l _ HM.out H1.out).mono ?_; rintro e w1 ⟨rfl, hb⟩; rw [← HS.out]; have HB := Lib.hid hb; clear hb)
      go_ret
      exact ⟨rfl, HB.out⟩
    | false =>
      go_enter Try.func32, Try.ntmps32
      go_wp2_with (go_at_call 52; refine (lContainsF a c l _ HM.out H1.out).mono ?_; rintro e w1 ⟨rfl, hb⟩; rw [← HS.out]; have HB := Lib.hid hb; clear hb)
      go_ret
      exact ⟨rfl, HB.out⟩
  · have e : okL l = false := by
      have : ¬ l.length ≤ 32 := by omega
      simp [okL, this]
    rw [e]; clear e
    go_enter Try.func32, Try.ntmps32
    go_wp2
    go_ret
    exact ⟨rfl, Below.refl _ _⟩
end Go.Proofs.Ytmcnanoamgkljaa
/- Which messages are right: the words, and the program's answer for a query. -/
namespace Go.Proofs.Ytmcnanoamgkljaa
set_option linter.unusedVariables false
open Go.RowKit

/-- Has a message nothing that but a query of version 3 has? -/
def bare (m : Msg) : Bool := !m.quiet && (m.rob == 0) && (m.every == 0) && (m.srcs.length == 0)
/-- Is a message right? -/
def right (m : Msg) : Bool :=
  if m.kind = 34 then bare m && (m.ver == 0) && (m.code == 0) && (m.grp == 0) && okL m.recs
  else if 0 < m.recs.length then false
  else if m.kind = 18 ∨ m.kind = 22 ∨ m.kind = 23 then bare m && (m.ver == 0) && (m.code == 0) && asked m.grp
  else if m.kind = 17 then
    if m.ver = 1 then bare m && (m.code == 0) && (m.grp == 0)
    else if m.ver = 2 then bare m && decide (0 < m.code) && may m.grp
    else if m.ver = 3 then decide (m.rob < 8) && decide (m.srcs.length ≤ 64) && (asked m.grp || ((m.grp == 0) && (m.srcs.length == 0)))
    else false
  else false
theorem len_nil {α : Type} (l : List α) : decide (l = []) = (l.length == 0) := by cases l <;> rfl
theorem sameL_nil (l : List Rec) : sameL l [] = (l.length == 0) := by cases l <;> rfl
/-- A query's answer, as the program works it out. -/
def isQ (m : Msg) : Bool :=
  if m.ver = 1 then sameM m ⟨m.kind, m.ver, 0, 0, false, 0, 0, [], []⟩
  else if m.ver = 2 then decide (0 < m.code) && (may m.grp && sameM m ⟨m.kind, m.ver, m.code, m.grp, false, 0, 0, [], []⟩)
  else if m.ver = 3 then may m.grp && (decide (m.rob < 8) && (decide ((m.srcs.length : Int) ≤ if m.grp = 0 then 0 else 64) && ((m.recs.length : Int) == 0)))
  else false
theorem same_bare (m : Msg) (v c g : Int) : sameM m ⟨m.kind, v, c, g, false, 0, 0, [], []⟩ = ((m.ver == v) && (m.code == c) && (m.grp == g) && bare m && (m.recs.length == 0)) := by
  unfold sameM bare
  simp only [len_nil, sameL_nil]
  cases m.quiet <;> cases (m.ver == v) <;> cases (m.code == c) <;> cases (m.grp == g) <;> cases (m.rob == 0) <;> cases (m.every == 0) <;> cases (m.srcs.length == 0) <;> simp
theorem asked0 : asked 0 = false := rfl
theorem isQ_right (m : Msg) (hk : m.kind = 17) : isQ m = right m := by
  have k34 : ¬ m.kind = 34 := by omega
  have k3 : ¬ (m.kind = 18 ∨ m.kind = 22 ∨ m.kind = 23) := by omega
  unfold isQ right
  rw [if_neg k34, if_neg k3, if_pos hk]
  simp only [same_bare]
  by_cases hr : 0 < m.recs.length
  · have h1 : (m.recs.length == 0) = false := by simp; exact List.ne_nil_of_length_pos hr
    have h2 : ((m.recs.length : Int) == 0) = false := by
      rw [beq_eq_false_iff_ne]; omega
    rw [if_pos hr, h1, h2]
    simp
  · have h1 : (m.recs.length == 0) = true := by rw [beq_iff_eq]; omega
    have h2 : ((m.recs.length : Int) == 0) = true := by rw [beq_iff_eq]; omega
    rw [if_neg hr, h1, h2]
    by_cases v1 : m.ver = 1
    · rw [if_pos v1, if_pos v1]
      cases bare m <;> cases (m.code == 0) <;> cases (m.grp == 0) <;> simp
    rw [if_neg v1, if_neg v1]
    by_cases v2 : m.ver = 2
    · rw [if_pos v2, if_pos v2]
      cases bare m <;> cases (decide (0 < m.code)) <;> cases (may m.grp) <;> simp
    rw [if_neg v2, if_neg v2]
    by_cases v3 : m.ver = 3
    · rw [if_pos v3, if_pos v3]
      unfold may
      by_cases g0 : m.grp = 0
      · rw [if_pos g0, g0, asked0]
        by_cases s0 : m.srcs.length = 0
        · simp [s0]
        · have e1 : ¬ (m.srcs.length : Int) ≤ 0 := by omega
          have e2 : (m.srcs.length == 0) = false := by rw [beq_eq_false_iff_ne]; exact s0
          rw [e2, decide_eq_false e1]; simp
      · have e1 : (m.grp == 0) = false := by rw [beq_eq_false_iff_ne]; exact g0
        have e2 : decide ((m.srcs.length : Int) ≤ 64) = decide (m.srcs.length ≤ 64) := by
          by_cases h : m.srcs.length ≤ 64
          · rw [decide_eq_true h, decide_eq_true (by omega)]
          · rw [decide_eq_false h, decide_eq_false (by omega)]
        rw [if_neg g0, e1, e2]
        cases (asked m.grp) <;> cases (decide (m.rob < 8)) <;> cases (decide (m.srcs.length ≤ 64)) <;> rfl
    rw [if_neg v3, if_neg v3]

set_option maxHeartbeats 4000000 in
theorem gIsQuery (x : Msg) (sa ra : Option Addr) (sc rc : Nat) (w : World) (h1 : Ms w x sa ra) :
    Calls Try.prog 30 #[.agg #[.int .u8 x.kind, .int .i64 x.ver, .int .u8 x.code, .int .u32 x.grp, .bool x.quiet, .int .u8 x.rob, .int .u8 x.every, .slice sa x.srcs.length sc, .slice ra x.recs.length rc]] w fun e w' => e = .returned (.bool (isQ x)) ∧ Below w.heap.size w w' := by
  obtain ⟨_, _, _, _, _, _, _, _, i1, i2⟩ := id h1
  have HM := Lib.hid h1
  clear h1
  obtain ⟨k, v, c, g, q, r, e, s, l⟩ := x
  simp only at i1 i2 ⊢
  by_cases v1 : v = 1
  · subst v1
    have HY : ∀ W : World, Ms W ⟨k, 1, 0, 0, false, 0, 0, [], []⟩ none none := fun W => ⟨As.nil _ _, Rs.nil _ _, HM.out.2.2.1, by simp, by simp, by simp, by simp, by simp, by simp, by simp⟩
    have HY := Lib.hid HY
    have E : Hid (isQ ⟨k, 1, c, g, q, r, e, s, l⟩ = sameM ⟨k, 1, c, g, q, r, e, s, l⟩ ⟨k, 1, 0, 0, false, 0, 0, [], []⟩) := Lib.hid rfl
    go_enter Try.func30, Try.ntmps30
    go_wp2_with (go_at_call 18; refine (gSame ⟨k, 1, c, g, q, r, e, s, l⟩ ⟨k, 1, 0, 0, false, 0, 0, [], []⟩ sa ra none none sc rc 0 0 _ (HM.out.below (bel2 _ _ _)) (HY.out _)).mono ?_; rintro e1 w1 ⟨rfl, hb⟩; have HB := Lib.hid (bel_up (bel2 _ _ _) hb); clear hb)
    go_ret
    exact ⟨ret_bool E.out.symm, HB.out⟩
  by_cases v2 : v = 2
  · subst v2
    by_cases c0 : 0 < c
    case neg =>
      have E : Hid (isQ ⟨k, 2, c, g, q, r, e, s, l⟩ = false) := Lib.hid (by simp [isQ, c0])
      go_enter Try.func30, Try.ntmps30
      go_wp2
      go_region
      go_wp2
      go_ret
      exact ⟨ret_bool E.out.symm, ((by first | exact bel2 _ _ _ | exact bdrawn (bel2 _ _ _) _))⟩
    obtain ⟨y, hy⟩ : ∃ y, y = may g := ⟨_, rfl⟩
    have HY' := Lib.hid hy
    clear hy
    cases y with
    | false =>
      have E : Hid (isQ ⟨k, 2, c, g, q, r, e, s, l⟩ = false) := Lib.hid (by simp [isQ, ← HY'.out])
      go_enter Try.func30, Try.ntmps30
      go_wp2
      go_region
      go_wp2_with (go_at_call 49; refine (gMayAsk g _).mono ?_; rintro e0 w0 ⟨rfl, rfl⟩; rw [← HY'.out])
      go_ret
      exact ⟨ret_bool E.out.symm, ((by first | exact bel2 _ _ _ | exact bdrawn (bel2 _ _ _) _))⟩
    | true =>
      have HY : ∀ W : World, Ms W ⟨k, 2, c, g, false, 0, 0, [], []⟩ none none := fun W => ⟨As.nil _ _, Rs.nil _ _, HM.out.2.2.1, by simp, HM.out.2.2.2.2.1, HM.out.2.2.2.2.2.1, by simp, by simp, by simp, by simp⟩
      have HY := Lib.hid HY
      have E : Hid (isQ ⟨k, 2, c, g, q, r, e, s, l⟩ = sameM ⟨k, 2, c, g, q, r, e, s, l⟩ ⟨k, 2, c, g, false, 0, 0, [], []⟩) := Lib.hid (by simp [isQ, ← HY'.out, c0])
      go_enter Try.func30, Try.ntmps30
      go_wp2
      go_region
      go_wp2_with (first
        | (go_at_call 49; refine (gMayAsk g _).mono ?_; rintro e0 w0 ⟨rfl, rfl⟩; rw [← HY'.out])
        | (go_at_call 18; refine (gSame ⟨k, 2, c, g, q, r, e, s, l⟩ ⟨k, 2, c, g, false, 0, 0, [], []⟩ sa ra none none sc rc 0 0 _ (HM.out.below ((by first | exact bel2 _ _ _ | exact bdrawn (bel2 _ _ _) _))) (HY.out _)).mono ?_; rintro e1 w1 ⟨rfl, hb⟩; have HB := Lib.hid (bel_up ((by first | exact bel2 _ _ _ | exact bdrawn (bel2 _ _ _) _)) hb); clear hb))
      go_ret
      exact ⟨ret_bool E.out.symm, HB.out⟩
  have f1 : (v == 1) = false := by simp [v1]
  have f2 : (v == 2) = false := by simp [v2]
  by_cases v3 : v = 3
  case neg =>
    have f3 : (v == 3) = false := by simp [v3]
    have E : Hid (isQ ⟨k, v, c, g, q, r, e, s, l⟩ = false) := Lib.hid (by simp [isQ, v1, v2, v3])
    clear v1 v2 v3
    go_enter Try.func30, Try.ntmps30
    go_wp2
    go_ret
    exact ⟨ret_bool E.out.symm, bel2 _ _ _⟩
  subst v3
  clear f1 f2 v1 v2
  obtain ⟨y, hy⟩ : ∃ y, y = may g := ⟨_, rfl⟩
  have HY' := Lib.hid hy
  clear hy
  by_cases g0 : g = 0
  · subst g0
    obtain rfl : y = true := HY'.out
    by_cases r8 : r < 8
    case neg =>
      have E : Hid (isQ ⟨k, 3, c, 0, q, r, e, s, l⟩ = false) := Lib.hid (by simp [isQ, r8])
      go_enter Try.func30, Try.ntmps30
      go_wp2_with (go_at_call 49; refine (gMayAsk 0 _).mono ?_; rintro e0 w0 ⟨rfl, rfl⟩; rw [← HY'.out])
      go_ret
      exact ⟨ret_bool E.out.symm, bel2 _ _ _⟩
    cases s with
    | nil =>
      have E : Hid (isQ ⟨k, 3, c, 0, q, r, e, [], l⟩ = ((l.length : Int) == 0)) := Lib.hid (by simp [isQ, may, r8])
      go_enter Try.func30, Try.ntmps30
      go_wp2_with (go_at_call 49; refine (gMayAsk 0 _).mono ?_; rintro e0 w0 ⟨rfl, rfl⟩; rw [← HY'.out])
      go_ret
      exact ⟨ret_bool E.out.symm, bel2 _ _ _⟩
    | cons s0 s =>
      have E : Hid (isQ ⟨k, 3, c, 0, q, r, e, s0 :: s, l⟩ = false) := Lib.hid (by simp [isQ]; try (intro _ _ h; omega))
      have f0 : ¬ (((s0 :: s).length : Int) ≤ 0) := by simp only [List.length_cons]; omega
      go_enter Try.func30, Try.ntmps30
      go_wp2_with (go_at_call 49; refine (gMayAsk 0 _).mono ?_; rintro e0 w0 ⟨rfl, rfl⟩; rw [← HY'.out])
      go_ret
      exact ⟨ret_bool E.out.symm, bel2 _ _ _⟩
  · have gf : (g == 0) = false := by simp [g0]
    have G0 := Lib.hid g0
    clear g0
    cases y with
    | false =>
      have E : Hid (isQ ⟨k, 3, c, g, q, r, e, s, l⟩ = false) := Lib.hid (by simp [isQ, ← HY'.out])
      go_enter Try.func30, Try.ntmps30
      go_wp2_with (go_at_call 49; refine (gMayAsk g _).mono ?_; rintro e0 w0 ⟨rfl, rfl⟩; rw [← HY'.out])
      go_ret
      exact ⟨ret_bool E.out.symm, bel2 _ _ _⟩
    | true =>
      by_cases r8 : r < 8
      case neg =>
        have E : Hid (isQ ⟨k, 3, c, g, q, r, e, s, l⟩ = false) := Lib.hid (by simp [isQ, r8])
        go_enter Try.func30, Try.ntmps30
        go_wp2_with (go_at_call 49; refine (gMayAsk g _).mono ?_; rintro e0 w0 ⟨rfl, rfl⟩; rw [← HY'.out])
        go_ret
        exact ⟨ret_bool E.out.symm, bel2 _ _ _⟩
      by_cases s0 : (s.length : Int) ≤ 64
      case neg =>
        have E : Hid (isQ ⟨k, 3, c, g, q, r, e, s, l⟩ = false) := Lib.hid (by simp [isQ, G0.out, s0])
        go_enter Try.func30, Try.ntmps30
        go_wp2_with (go_at_call 49; refine (gMayAsk g _).mono ?_; rintro e0 w0 ⟨rfl, rfl⟩; rw [← HY'.out])
        go_ret
        exact ⟨ret_bool E.out.symm, bel2 _ _ _⟩
      have E : Hid (isQ ⟨k, 3, c, g, q, r, e, s, l⟩ = ((l.length : Int) == 0)) := Lib.hid (by simp [isQ, ← HY'.out, G0.out, s0, r8])
      go_enter Try.func30, Try.ntmps30
      go_wp2_with (go_at_call 49; refine (gMayAsk g _).mono ?_; rintro e0 w0 ⟨rfl, rfl⟩; rw [← HY'.out])
      go_ret
      exact ⟨ret_bool E.out.symm, bel2 _ _ _⟩
end Go.Proofs.Ytmcnanoamgkljaa
/- Which messages are right: the program's answer. -/
namespace Go.Proofs.Ytmcnanoamgkljaa
set_option linter.unusedVariables false
open Go.RowKit

theorem right_rep (m : Msg) (hk : m.kind = 18 ∨ m.kind = 22 ∨ m.kind = 23) : right m = (asked m.grp && sameM m ⟨m.kind, 0, 0, m.grp, false, 0, 0, [], []⟩) := by
  have k34 : ¬ m.kind = 34 := by omega
  unfold right
  rw [if_neg k34, if_pos hk, same_bare]
  by_cases hr : 0 < m.recs.length
  · have h1 : (m.recs.length == 0) = false := by simp; exact List.ne_nil_of_length_pos hr
    rw [if_pos hr, h1]
    simp
  · have h1 : (m.recs.length == 0) = true := by rw [beq_iff_eq]; omega
    rw [if_neg hr, h1]
    cases bare m <;> cases (m.ver == 0) <;> cases (m.code == 0) <;> cases (asked m.grp) <;> simp
theorem sameL_self (l : List Rec) : sameL l l = true := (sameL_iff l l).2 rfl
theorem right_v3 (m : Msg) (hk : m.kind = 34) : right m = (okL m.recs && sameM m ⟨m.kind, 0, 0, 0, false, 0, 0, [], m.recs⟩) := by
  unfold right
  rw [if_pos hk]
  unfold sameM bare
  simp only [len_nil, sameL_self]
  cases m.quiet <;> cases (m.ver == 0) <;> cases (m.code == 0) <;> cases (m.grp == 0) <;> cases (m.rob == 0) <;> cases (m.every == 0) <;> cases (m.srcs.length == 0) <;> cases (okL m.recs) <;> simp
theorem right_no (m : Msg) (h1 : m.kind ≠ 17) (h2 : m.kind ≠ 18) (h3 : m.kind ≠ 22) (h4 : m.kind ≠ 23) (h5 : m.kind ≠ 34) : right m = false := by
  unfold right
  rw [if_neg h5]
  split
  · rfl
  · simp [h2, h3, h4]

set_option maxHeartbeats 4000000 in
theorem gRight (x : Msg) (sa ra : Option Addr) (sc rc : Nat) (w : World) (h1 : Ms w x sa ra) :
    Calls Try.prog 15 #[.agg #[.int .u8 x.kind, .int .i64 x.ver, .int .u8 x.code, .int .u32 x.grp, .bool x.quiet, .int .u8 x.rob, .int .u8 x.every, .slice sa x.srcs.length sc, .slice ra x.recs.length rc]] w fun e w' => e = .returned (.bool (right x)) ∧ Below w.heap.size w w' := by
  obtain ⟨_, _, _, _, _, _, _, _, i1, i2⟩ := id h1
  have HM := Lib.hid h1
  clear h1
  obtain ⟨k, v, c, g, q, r, e, s, l⟩ := x
  simp only at i1 i2 ⊢
  by_cases k17 : k = 17
  · subst k17
    have E := Lib.hid (isQ_right ⟨17, v, c, g, q, r, e, s, l⟩ rfl)
    go_enter Try.func15, Try.ntmps15
    go_wp2_with (go_at_call 30; refine (gIsQuery ⟨17, v, c, g, q, r, e, s, l⟩ sa ra sc rc _ (HM.out.below (bel1 _ _))).mono ?_; rintro e1 w1 ⟨rfl, hb⟩; have HB := Lib.hid (bel_up (bel1 _ _) hb); clear hb)
    go_ret
    exact ⟨ret_bool E.out, HB.out⟩
  by_cases k18 : k = 18
  · subst k18
    have HR := Lib.hid (right_rep ⟨18, v, c, g, q, r, e, s, l⟩ (by simp))
    obtain ⟨y, hy⟩ : ∃ y, y = asked g := ⟨_, rfl⟩
    have HY' := Lib.hid hy
    clear hy
    cases y with
    | false =>
      have E : Hid (right ⟨18, v, c, g, q, r, e, s, l⟩ = false) := Lib.hid (by rw [HR.out]; simp [← HY'.out])
      go_enter Try.func15, Try.ntmps15
      go_wp2_with (go_at_call 31; refine (aIsAsked g _).mono ?_; rintro e0 w0 ⟨rfl, rfl⟩; rw [← HY'.out])
      go_ret
      exact ⟨ret_bool E.out.symm, bel1 _ _⟩
    | true =>
      have HY : ∀ W : World, Ms W ⟨18, 0, 0, g, false, 0, 0, [], []⟩ none none := fun W => ⟨As.nil _ _, Rs.nil _ _, HM.out.2.2.1, by simp, by simp, HM.out.2.2.2.2.2.1, by simp, by simp, by simp, by simp⟩
      have HY := Lib.hid HY
      have E : Hid (right ⟨18, v, c, g, q, r, e, s, l⟩ = sameM ⟨18, v, c, g, q, r, e, s, l⟩ ⟨18, 0, 0, g, false, 0, 0, [], []⟩) := Lib.hid (by rw [HR.out]; simp [← HY'.out])
      go_enter Try.func15, Try.ntmps15
      go_wp2_with (first
        | (go_at_call 31; refine (aIsAsked g _).mono ?_; rintro e0 w0 ⟨rfl, rfl⟩; rw [← HY'.out])
        | (go_at_call 18; refine (gSame ⟨18, v, c, g, q, r, e, s, l⟩ ⟨18, 0, 0, g, false, 0, 0, [], []⟩ sa ra none none sc rc 0 0 _ (HM.out.below (bel1 _ _)) (HY.out _)).mono ?_; rintro e1 w1 ⟨rfl, hb⟩; have HB := Lib.hid (bel_up (bel1 _ _) hb); clear hb))
      go_ret
      exact ⟨ret_bool E.out.symm, HB.out⟩
  by_cases k22 : k = 22
  · subst k22
    have HR := Lib.hid (right_rep ⟨22, v, c, g, q, r, e, s, l⟩ (by simp))
    obtain ⟨y, hy⟩ : ∃ y, y = asked g := ⟨_, rfl⟩
    have HY' := Lib.hid hy
    clear hy
    cases y with
    | false =>
      have E : Hid (right ⟨22, v, c, g, q, r, e, s, l⟩ = false) := Lib.hid (by rw [HR.out]; simp [← HY'.out])
      go_enter Try.func15, Try.ntmps15
      go_wp2_with (go_at_call 31; refine (aIsAsked g _).mono ?_; rintro e0 w0 ⟨rfl, rfl⟩; rw [← HY'.out])
      go_ret
      exact ⟨ret_bool E.out.symm, bel1 _ _⟩
    | true =>
      have HY : ∀ W : World, Ms W ⟨22, 0, 0, g, false, 0, 0, [], []⟩ none none := fun W => ⟨As.nil _ _, Rs.nil _ _, HM.out.2.2.1, by simp, by simp, HM.out.2.2.2.2.2.1, by simp, by simp, by simp, by simp⟩
      have HY := Lib.hid HY
      have E : Hid (right ⟨22, v, c, g, q, r, e, s, l⟩ = sameM ⟨22, v, c, g, q, r, e, s, l⟩ ⟨22, 0, 0, g, false, 0, 0, [], []⟩) := Lib.hid (by rw [HR.out]; simp [← HY'.out])
      go_enter Try.func15, Try.ntmps15
      go_wp2_with (first
        | (go_at_call 31; refine (aIsAsked g _).mono ?_; rintro e0 w0 ⟨rfl, rfl⟩; rw [← HY'.out])
        | (go_at_call 18; refine (gSame ⟨22, v, c, g, q, r, e, s, l⟩ ⟨22, 0, 0, g, false, 0, 0, [], []⟩ sa ra none none sc rc 0 0 _ (HM.out.below (bel1 _ _)) (HY.out _)).mono ?_; rintro e1 w1 ⟨rfl, hb⟩; have HB := Lib.hid (bel_up (bel1 _ _) hb); clear hb))
      go_ret
      exact ⟨ret_bool E.out.symm, HB.out⟩
  by_cases k23 : k = 23
  · subst k23
    have HR := Lib.hid (right_rep ⟨23, v, c, g, q, r, e, s, l⟩ (by simp))
    obtain ⟨y, hy⟩ : ∃ y, y = asked g := ⟨_, rfl⟩
    have HY' := Lib.hid hy
    clear hy
    cases y with
    | false =>
      have E : Hid (right ⟨23, v, c, g, q, r, e, s, l⟩ = false) := Lib.hid (by rw [HR.out]; simp [← HY'.out])
      go_enter Try.func15, Try.ntmps15
      go_wp2_with (go_at_call 31; refine (aIsAsked g _).mono ?_; rintro e0 w0 ⟨rfl, rfl⟩; rw [← HY'.out])
      go_ret
      exact ⟨ret_bool E.out.symm, bel1 _ _⟩
    | true =>
      have HY : ∀ W : World, Ms W ⟨23, 0, 0, g, false, 0, 0, [], []⟩ none none := fun W => ⟨As.nil _ _, Rs.nil _ _, HM.out.2.2.1, by simp, by simp, HM.out.2.2.2.2.2.1, by simp, by simp, by simp, by simp⟩
      have HY := Lib.hid HY
      have E : Hid (right ⟨23, v, c, g, q, r, e, s, l⟩ = sameM ⟨23, v, c, g, q, r, e, s, l⟩ ⟨23, 0, 0, g, false, 0, 0, [], []⟩) := Lib.hid (by rw [HR.out]; simp [← HY'.out])
      go_enter Try.func15, Try.ntmps15
      go_wp2_with (first
        | (go_at_call 31; refine (aIsAsked g _).mono ?_; rintro e0 w0 ⟨rfl, rfl⟩; rw [← HY'.out])
        | (go_at_call 18; refine (gSame ⟨23, v, c, g, q, r, e, s, l⟩ ⟨23, 0, 0, g, false, 0, 0, [], []⟩ sa ra none none sc rc 0 0 _ (HM.out.below (bel1 _ _)) (HY.out _)).mono ?_; rintro e1 w1 ⟨rfl, hb⟩; have HB := Lib.hid (bel_up (bel1 _ _) hb); clear hb))
      go_ret
      exact ⟨ret_bool E.out.symm, HB.out⟩
  by_cases k34 : k = 34
  · subst k34
    have HR := Lib.hid (right_v3 ⟨34, v, c, g, q, r, e, s, l⟩ rfl)
    obtain ⟨y, hy⟩ : ∃ y, y = okL l := ⟨_, rfl⟩
    have HY' := Lib.hid hy
    clear hy
    cases y with
    | false =>
      have E : Hid (right ⟨34, v, c, g, q, r, e, s, l⟩ = false) := Lib.hid (by rw [HR.out]; simp [← HY'.out])
      go_enter Try.func15, Try.ntmps15
      go_wp2_with (go_at_call 32; refine (gAreRecords ra rc l _ i2 (HM.out.below (bel1 _ _)).2.1).mono ?_; rintro e0 w0 ⟨rfl, hb⟩; rw [← HY'.out]; have HB := Lib.hid (bel_up (bel1 _ _) hb); clear hb)
      go_ret
      exact ⟨ret_bool E.out.symm, HB.out⟩
    | true =>
      have HY : ∀ W : World, Rs W ra l → Ms W ⟨34, 0, 0, 0, false, 0, 0, [], l⟩ none ra := fun W hr => ⟨As.nil _ _, hr, HM.out.2.2.1, by simp, by simp, by simp, by simp, by simp, by simp, HM.out.2.2.2.2.2.2.2.2.2⟩
      have HY := Lib.hid HY
      have E : Hid (right ⟨34, v, c, g, q, r, e, s, l⟩ = sameM ⟨34, v, c, g, q, r, e, s, l⟩ ⟨34, 0, 0, 0, false, 0, 0, [], l⟩) := Lib.hid (by rw [HR.out]; simp [← HY'.out])
      go_enter Try.func15, Try.ntmps15
      go_wp2_with (first
        | (go_at_call 32; refine (gAreRecords ra rc l _ i2 (HM.out.below (bel1 _ _)).2.1).mono ?_; rintro e0 w0 ⟨rfl, hb⟩; rw [← HY'.out]; obtain ⟨b0, b1, b2, b3, b4, b5, b6, b7, b8⟩ := boxM hb; have HB0 := Lib.hid (bel_up (bel1 _ _) hb); clear hb)
        | (go_at_call 18; refine (gSame ⟨34, v, c, g, q, r, e, s, l⟩ ⟨34, 0, 0, 0, false, 0, 0, [], l⟩ sa ra none ra sc rc 0 rc _ (HM.out.below HB0.out) (HY.out _ (HM.out.below HB0.out).2.1)).mono ?_; rintro e1 w1 ⟨rfl, hb⟩; have HB := Lib.hid (bel_up HB0.out hb); clear hb))
      go_ret
      exact ⟨ret_bool E.out.symm, HB.out⟩
  have E := Lib.hid (right_no ⟨k, v, c, g, q, r, e, s, l⟩ k17 k18 k22 k23 k34)
  have f1 : (k == 17) = false := by simp [k17]
  have f2 : (k == 18) = false := by simp [k18]
  have f3 : (k == 22) = false := by simp [k22]
  have f4 : (k == 23) = false := by simp [k23]
  have f5 : (k == 34) = false := by simp [k34]
  clear k17 k18 k22 k23 k34
  go_enter Try.func15, Try.ntmps15
  go_wp2
  go_ret
  exact ⟨ret_bool E.out.symm, bel1 _ _⟩
end Go.Proofs.Ytmcnanoamgkljaa
