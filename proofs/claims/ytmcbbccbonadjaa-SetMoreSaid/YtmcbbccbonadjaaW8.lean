/- Sockets and records, and what a host wants, plainly. -/
import Derived.Test.YtmcbbccbonadjaaW0
import Derived.Test.YtmcbbccbonadjaaW1
import Derived.Test.YtmcbbccbonadjaaW2
import Derived.Test.YtmcbbccbonadjaaW3
import Derived.Test.YtmcbbccbonadjaaW4
import Derived.Test.YtmcbbccbonadjaaW5
import Derived.Test.YtmcbbccbonadjaaW6
import Derived.Test.YtmcbbccbonadjaaW7
import Derived.BigQuiet
import Derived.Lib.AppendZeros
namespace Go.Proofs.Ytmcbbccbonadjaa
set_option linter.unusedVariables false
open Go.RowKit

/-- A block without numbers and marks. -/
def NoNum (w : World) (B : Nat) : Prop := ∀ o v, w.cell? ⟨B, o, none⟩ = some v → (∀ k x, v ≠ .int k x) ∧ ∀ b, v ≠ .bool b
/-- The world goes on: new memory, or a store into a block without numbers and marks. -/
def Tm (w w' : World) : Prop := Below w.heap.size w w' ∨ ∃ B, NoNum w B ∧ But1 B w w'
theorem Tm.below {w w' : World} (h : Below w.heap.size w w') : Tm w w' := .inl h
theorem Tm.refl (w : World) : Tm w w := .inl (Below.refl _ _)
theorem Tm.int {w w' : World} (h : Tm w w') {b o : Nat} {k : IntKind} {x : Int} (hc : w.cell? ⟨b, o, none⟩ = some (.int k x)) : ∀ o' v, w.cell? ⟨b, o', none⟩ = some v → w'.cell? ⟨b, o', none⟩ = some v := by
  intro o' v hv
  rcases h with h | ⟨B, hn, hb⟩
  · exact (h.cell (cell_lt hv)).trans hv
  · have hne : b ≠ B := by rintro rfl; exact (hn _ _ hc).1 _ _ rfl
    exact (hb.cell (p := ⟨b, o', none⟩) (cell_lt hv) hne).trans hv
theorem Tm.mark {w w' : World} (h : Tm w w') {b o : Nat} {x : Bool} (hc : w.cell? ⟨b, o, none⟩ = some (.bool x)) : ∀ o' v, w.cell? ⟨b, o', none⟩ = some v → w'.cell? ⟨b, o', none⟩ = some v := by
  intro o' v hv
  rcases h with h | ⟨B, hn, hb⟩
  · exact (h.cell (cell_lt hv)).trans hv
  · have hne : b ≠ B := by rintro rfl; exact (hn _ _ hc).2 _ rfl
    exact (hb.cell (p := ⟨b, o', none⟩) (cell_lt hv) hne).trans hv
theorem As.tm {w w' : World} {a : Option Addr} {xs : List Int} (h : As w a xs) (hb : Tm w w') : As w' a xs := by
  refine ⟨?_, h.2⟩
  rcases h.1 with h1 | ⟨b, off, e, hc⟩
  · exact .inl h1
  · refine .inr ⟨b, off, e, fun k hk => hb.int (hc k hk) _ _ (hc k hk)⟩
theorem FOk.tm {w w' : World} {f : Flt} (h : FOk w f) (hb : Tm w w') : FOk w' f := ⟨h.1.tm hb, h.2⟩
theorem FAt.tm {w w' : World} {b o : Nat} {f : Flt} (h : FAt w b o f) (hb : Tm w w') : FAt w' b o f :=
  ⟨⟨hb.mark h.1.1 _ _ h.1.1, hb.mark h.1.1 _ _ h.1.2⟩, h.2.tm hb⟩
theorem Fls.tm {w w' : World} {a : Option Addr} {fs : List Flt} (h : Fls w a fs) (hb : Tm w w') : Fls w' a fs := by
  rcases h with h | ⟨b, off, e, hc⟩
  · exact .inl h
  · exact .inr ⟨b, off, e, fun k f hk => (hc k f hk).tm hb⟩

/-- A socket. -/
structure Sk where
  id : Int
  g : Int
  f : Flt
/-- A socket in four cells. -/
def SkAt (w : World) (b o : Nat) (s : Sk) : Prop :=
  (w.cell? ⟨b, o, none⟩ = some (.int .i64 s.id) ∧ w.cell? ⟨b, o + 1, none⟩ = some (.int .u32 s.g) ∧ w.cell? ⟨b, o + 2, none⟩ = some (.bool s.f.ex) ∧ w.cell? ⟨b, o + 3, none⟩ = some s.f.sl) ∧ FOk w s.f ∧ 0 ≤ s.g ∧ s.g ≤ 4294967295
theorem SkAt.tm {w w' : World} {b o : Nat} {s : Sk} (h : SkAt w b o s) (hb : Tm w w') : SkAt w' b o s :=
  ⟨⟨hb.int h.1.1 _ _ h.1.1, hb.int h.1.1 _ _ h.1.2.1, hb.int h.1.1 _ _ h.1.2.2.1, hb.int h.1.1 _ _ h.1.2.2.2⟩, h.2.1.tm hb, h.2.2⟩
theorem SkAt.below {w w' : World} {b o : Nat} {s : Sk} (h : SkAt w b o s) (hb : Below w.heap.size w w') : SkAt w' b o s := h.tm (.inl hb)
/-- A slice of sockets. -/
def Sks (w : World) (a : Option Addr) (ss : List Sk) : Prop := ss = [] ∨ ∃ b off, a = some ⟨b, off, none⟩ ∧ ∀ (k : Nat) s, ss[k]? = some s → SkAt w b (off + k * 4) s
theorem Sks.tm {w w' : World} {a : Option Addr} {ss : List Sk} (h : Sks w a ss) (hb : Tm w w') : Sks w' a ss := by
  rcases h with h | ⟨b, off, e, hc⟩
  · exact .inl h
  · exact .inr ⟨b, off, e, fun k s hk => (hc k s hk).tm hb⟩
theorem Sks.below {w w' : World} {a : Option Addr} {ss : List Sk} (h : Sks w a ss) (hb : Below w.heap.size w w') : Sks w' a ss := h.tm (.inl hb)
theorem Sks.nil (w : World) (a : Option Addr) : Sks w a [] := .inl rfl
theorem Sks.at {w : World} {a : Option Addr} {ss : List Sk} (h : Sks w a ss) {k : Nat} (hk : k < ss.length) : ∃ b off, a = some ⟨b, off, none⟩ ∧ ∀ (k : Nat) s, ss[k]? = some s → SkAt w b (off + k * 4) s := by
  rcases h with e | h
  · rw [e] at hk; simp at hk
  · exact h
theorem Sks.mem {w : World} {a : Option Addr} {ss : List Sk} (h : Sks w a ss) {s : Sk} (hs : s ∈ ss) : FOk w s.f ∧ 0 ≤ s.g ∧ s.g ≤ 4294967295 := by
  obtain ⟨k, hk, e⟩ := List.getElem_of_mem hs
  obtain ⟨b, off, _, hc⟩ := h.at hk
  exact (hc k s (by rw [List.getElem?_eq_getElem hk, e])).2
theorem Sks.take {w : World} {a : Option Addr} {ss : List Sk} (h : Sks w a ss) (n : Nat) : Sks w a (ss.take n) := by
  rcases h with rfl | ⟨b, off, e, hc⟩
  · exact .inl (by simp)
  · refine .inr ⟨b, off, e, fun k s hk => hc k s ?_⟩
    rw [List.getElem?_take] at hk
    split at hk
    · exact hk
    · cases hk
theorem Sks.drop {w : World} {b off : Nat} {ss : List Sk} (h : Sks w (some ⟨b, off, none⟩) ss) (n : Nat) : Sks w (some ⟨b, off + n * 4, none⟩) (ss.drop n) := by
  rcases h with rfl | ⟨b', off', e, hc⟩
  · exact .inl (by simp)
  · cases e
    refine .inr ⟨_, _, rfl, fun k s hk => ?_⟩
    rw [List.getElem?_drop] at hk
    have := hc _ s hk
    rwa [show off + (n + k) * 4 = off + n * 4 + k * 4 by omega] at this

/-- A record. -/
structure Rc where
  ty : Int
  g : Int
  srcs : List Int
  a : Option Addr
  c : Nat
def Rc.sl (r : Rc) : Value := .slice r.a r.srcs.length r.c
def RcOk (w : World) (r : Rc) : Prop := As w r.a r.srcs ∧ (r.a = none → r.c = 0)
def RcAt (w : World) (b o : Nat) (r : Rc) : Prop :=
  (w.cell? ⟨b, o, none⟩ = some (.int .u8 r.ty) ∧ w.cell? ⟨b, o + 1, none⟩ = some (.int .u32 r.g) ∧ w.cell? ⟨b, o + 2, none⟩ = some r.sl) ∧ RcOk w r
theorem RcAt.tm {w w' : World} {b o : Nat} {r : Rc} (h : RcAt w b o r) (hb : Tm w w') : RcAt w' b o r :=
  ⟨⟨hb.int h.1.1 _ _ h.1.1, hb.int h.1.1 _ _ h.1.2.1, hb.int h.1.1 _ _ h.1.2.2⟩, h.2.1.tm hb, h.2.2⟩
theorem RcAt.below {w w' : World} {b o : Nat} {r : Rc} (h : RcAt w b o r) (hb : Below w.heap.size w w') : RcAt w' b o r := h.tm (.inl hb)
/-- A slice of records. -/
def Rcs (w : World) (a : Option Addr) (rs : List Rc) : Prop := rs = [] ∨ ∃ b off, a = some ⟨b, off, none⟩ ∧ ∀ (k : Nat) r, rs[k]? = some r → RcAt w b (off + k * 3) r
theorem Rcs.tm {w w' : World} {a : Option Addr} {rs : List Rc} (h : Rcs w a rs) (hb : Tm w w') : Rcs w' a rs := by
  rcases h with h | ⟨b, off, e, hc⟩
  · exact .inl h
  · exact .inr ⟨b, off, e, fun k s hk => (hc k s hk).tm hb⟩
theorem Rcs.below {w w' : World} {a : Option Addr} {rs : List Rc} (h : Rcs w a rs) (hb : Below w.heap.size w w') : Rcs w' a rs := h.tm (.inl hb)
theorem Rcs.nil (w : World) (a : Option Addr) : Rcs w a [] := .inl rfl
theorem Rcs.at {w : World} {a : Option Addr} {rs : List Rc} (h : Rcs w a rs) {k : Nat} (hk : k < rs.length) : ∃ b off, a = some ⟨b, off, none⟩ ∧ ∀ (k : Nat) r, rs[k]? = some r → RcAt w b (off + k * 3) r := by
  rcases h with e | h
  · rw [e] at hk; simp at hk
  · exact h

/-- What one is, wherever it lies. -/
def Flt.nm (f : Flt) : Flt := ⟨f.ex, f.srcs, none, 0⟩
def Sk.nm (s : Sk) : Sk := ⟨s.id, s.g, s.f.nm⟩
def Rc.nm (r : Rc) : Rc := ⟨r.ty, r.g, r.srcs, none, 0⟩
theorem withs_nm (fs : List Flt) : withs (fs.map Flt.nm) = (withs fs).map Flt.nm := by
  unfold withs; rw [List.filter_map]; rfl
theorem wo_nm (fs : List Flt) : wo (fs.map Flt.nm) = wo fs := by
  unfold wo; rw [List.filter_map, List.flatMap_map]; rfl
theorem fold_nm (r : List Flt) (l : List Int) : (r.map Flt.nm).foldl (fun l g => int l g.srcs) l = r.foldl (fun l g => int l g.srcs) l := by
  rw [List.foldl_map]; rfl
theorem flt_nm (fs : List Flt) : flt (fs.map Flt.nm) = flt fs := by
  unfold flt
  rw [withs_nm, wo_nm]
  cases withs fs with
  | nil => rfl
  | cons f r => simp only [List.map_cons, fold_nm]; rfl
/-- A host's filters of a group, and what it wants of it. -/
def ofG (g : Int) (ss : List Sk) : List Flt := (ss.filter fun s => s.g == g).map (·.f)
def wants (g : Int) (ss : List Sk) : Bool × List Int := flt (ofG g ss)
theorem ofG_nm (g : Int) (ss : List Sk) : ofG g (ss.map Sk.nm) = (ofG g ss).map Flt.nm := by
  unfold ofG; rw [List.filter_map, List.map_map, List.map_map]; rfl
theorem wants_nm (g : Int) (ss : List Sk) : wants g (ss.map Sk.nm) = wants g ss := by
  unfold wants; rw [ofG_nm, flt_nm]
theorem wants_eq {g : Int} {ss tt : List Sk} (h : ss.map Sk.nm = tt.map Sk.nm) : wants g ss = wants g tt := by
  rw [← wants_nm g ss, h, wants_nm]
theorem ofG_yes {g : Int} {ss : List Sk} {s : Sk} (h : (s.g == g) = true) : ofG g (ss ++ [s]) = ofG g ss ++ [s.f] := by simp [ofG, List.filter_append, h]
theorem ofG_no {g : Int} {ss : List Sk} {s : Sk} (h : (s.g == g) = false) : ofG g (ss ++ [s]) = ofG g ss := by simp [ofG, List.filter_append, h]
/-- Does a filter want anything? -/
def some' (f : Flt) : Bool := f.ex || decide (0 < f.srcs.length)
def grp (ss : List Sk) : List Int := (ss.filter fun s => some' s.f).map (·.g)
theorem grp_nm (ss : List Sk) : grp (ss.map Sk.nm) = grp ss := by
  unfold grp; rw [List.filter_map, List.map_map]; rfl
theorem grp_yes {ss : List Sk} {s : Sk} (h : some' s.f = true) : grp (ss ++ [s]) = grp ss ++ [s.g] := by simp [grp, List.filter_append, h]
theorem grp_no {ss : List Sk} {s : Sk} (h : some' s.f = false) : grp (ss ++ [s]) = grp ss := by simp [grp, List.filter_append, h]
/-- Is a group asked about? -/
def asked (g : Int) : Bool := decide (3758096640 ≤ g ∧ g ≤ 4026531839)
/-- A right socket, and a right host. -/
def okS (s : Sk) : Prop := 1 ≤ s.id ∧ asked s.g = true ∧ s.f.srcs.length ≤ 16 ∧ Inc s.f.srcs
instance (s : Sk) : Decidable (okS s) := by unfold okS Inc; infer_instance
def Ris (ss : List Sk) : Prop := ss.Pairwise fun s t => s.id < t.id
def okH (ss : List Sk) : Prop := (∀ s ∈ ss, okS s) ∧ Ris ss ∧ ss.length ≤ 32
instance (ss : List Sk) : Decidable (okH ss) := by unfold okH Ris; infer_instance
end Go.Proofs.Ytmcbbccbonadjaa
/- Which sockets and hosts are right: the program's answers. -/
namespace Go.Proofs.Ytmcbbccbonadjaa
set_option linter.unusedVariables false
open Go.RowKit

theorem evG {a : Act} {t : Nat} {v : Value} (h : a.eval (.tmp t) = v) : a.tmps[t]?.getD undef = v := by simpa [Act.eval] using h
theorem aIsGroup (g : Int) (w : World) :
    Calls Try.prog 83 #[.int .u32 g] w fun e w' => e = .returned (.bool (decide (3758096384 ≤ g ∧ g ≤ 4026531839))) ∧ w = w' := by
  by_cases h1 : 3758096384 ≤ g
  · by_cases h2 : g ≤ 4026531839
    · rw [decide_eq_true ⟨h1, h2⟩]
      go_enter Try.func83, Try.ntmps83
      go_wp2
      go_ret
      exact ⟨rfl, rfl⟩
    · rw [decide_eq_false (fun e => h2 e.2)]
      go_enter Try.func83, Try.ntmps83
      go_wp2
      go_ret
      exact ⟨rfl, rfl⟩
  · rw [decide_eq_false (fun e => h1 e.1)]
    go_enter Try.func83, Try.ntmps83
    go_wp2
    go_ret
    exact ⟨rfl, rfl⟩
theorem aIsLocal (g : Int) (w : World) :
    Calls Try.prog 84 #[.int .u32 g] w fun e w' => e = .returned (.bool (decide (3758096384 ≤ g ∧ g ≤ 3758096639))) ∧ w = w' := by
  by_cases h1 : 3758096384 ≤ g
  · by_cases h2 : g ≤ 3758096639
    · rw [decide_eq_true ⟨h1, h2⟩]
      go_enter Try.func84, Try.ntmps84
      go_wp2
      go_ret
      exact ⟨rfl, rfl⟩
    · rw [decide_eq_false (fun e => h2 e.2)]
      go_enter Try.func84, Try.ntmps84
      go_wp2
      go_ret
      exact ⟨rfl, rfl⟩
  · rw [decide_eq_false (fun e => h1 e.1)]
    go_enter Try.func84, Try.ntmps84
    go_wp2
    go_ret
    exact ⟨rfl, rfl⟩
theorem aIsAsked (g : Int) (w : World) :
    Calls Try.prog 74 #[.int .u32 g] w fun e w' => e = .returned (.bool (asked g)) ∧ w = w' := by
  by_cases h1 : 3758096384 ≤ g ∧ g ≤ 4026531839
  · by_cases h2 : 3758096384 ≤ g ∧ g ≤ 3758096639
    · have e : asked g = false := by unfold asked; rw [decide_eq_false_iff_not]; omega
      have D1 := Lib.hid (decide_eq_true h1)
      have D2 := Lib.hid (decide_eq_true h2)
      rw [e]
      clear h1 h2 e
      go_enter Try.func74, Try.ntmps74
      go_wp2_with (first
        | (go_at_call 83; refine (aIsGroup g _).mono ?_; rintro e w1 ⟨rfl, rfl⟩; rw [D1.out])
        | (go_at_call 84; refine (aIsLocal g _).mono ?_; rintro e w2 ⟨rfl, rfl⟩; rw [D2.out]))
      go_ret
      exact ⟨rfl, rfl⟩
    · have e : asked g = true := by unfold asked; rw [decide_eq_true_eq]; omega
      have D1 := Lib.hid (decide_eq_true h1)
      have D2 := Lib.hid (decide_eq_false h2)
      rw [e]
      clear h1 h2 e
      go_enter Try.func74, Try.ntmps74
      go_wp2_with (first
        | (go_at_call 83; refine (aIsGroup g _).mono ?_; rintro e w1 ⟨rfl, rfl⟩; rw [D1.out])
        | (go_at_call 84; refine (aIsLocal g _).mono ?_; rintro e w2 ⟨rfl, rfl⟩; rw [D2.out]))
      go_ret
      exact ⟨rfl, rfl⟩
  · have e : asked g = false := by unfold asked; rw [decide_eq_false_iff_not]; omega
    have D1 := Lib.hid (decide_eq_false h1)
    rw [e]
    clear h1 e
    go_enter Try.func74, Try.ntmps74
    go_wp2_with (go_at_call 83; refine (aIsGroup g _).mono ?_; rintro e w1 ⟨rfl, rfl⟩; rw [D1.out])
    go_ret
    exact ⟨rfl, rfl⟩
theorem rAsked (g : Int) (w : World) :
    Calls Try.prog 71 #[.int .u32 g] w fun e w' => e = .returned (.bool (asked g)) ∧ w = w' := by
  unfold asked
  by_cases h1 : 3758096640 ≤ g
  · by_cases h2 : g ≤ 4026531839
    · rw [decide_eq_true ⟨h1, h2⟩]
      go_enter Try.func71, Try.ntmps71
      go_wp2
      go_ret
      exact ⟨rfl, rfl⟩
    · rw [decide_eq_false (fun e => h2 e.2)]
      go_enter Try.func71, Try.ntmps71
      go_wp2
      go_ret
      exact ⟨rfl, rfl⟩
  · rw [decide_eq_false (fun e => h1 e.1)]
    go_enter Try.func71, Try.ntmps71
    go_wp2
    go_ret
    exact ⟨rfl, rfl⟩
set_option maxRecDepth 100000 in
set_option maxHeartbeats 2000000 in
theorem hIsRight (s : Sk) (w : World) (hf : FOk w s.f) (hl : s.f.srcs.length ≤ 1000000000) :
    Calls Try.prog 47 #[.agg #[.int .i64 s.id, .int .u32 s.g, .bool s.f.ex, s.f.sl]] w fun e w' => e = .returned (.bool (decide (okS s))) ∧ Below w.heap.size w w' := by
  obtain ⟨id, g, ⟨ex, srcs, fa, fc⟩⟩ := s
  simp only [Flt.sl] at *
  have HF := Lib.hid hf
  clear hf
  by_cases h1 : (0 : Int) < id
  · by_cases h2 : asked g = true
    · have D2 := Lib.hid h2
      by_cases h3 : srcs.length ≤ 16
      · have e : decide (okS ⟨id, g, ⟨ex, srcs, fa, fc⟩⟩) = decide (Inc srcs) := decide_eq_decide.2 ⟨fun h => h.2.2.2, fun h => ⟨by show 1 ≤ id; omega, h2, h3, h⟩⟩
        rw [e]
        have h3' : (srcs.length : Int) ≤ 16 := by omega
        clear e h2 h3
        go_enter Try.func47, Try.ntmps47
        go_wp2_with fail
        refine (aIsAsked g _).mono ?_
        rintro e w1 ⟨rfl, rfl⟩
        rw [D2.out]
        go_wp2_with fail
        refine (sRight fa srcs.length fc srcs _ rfl (by omega) (HF.out.1.below (bel1 w _))).mono ?_
        rintro e w2 ⟨rfl, hb⟩
        have HB := Lib.hid (bel_up (bel1 w _) hb)
        clear hb
        go_wp2_with fail
        go_ret
        exact ⟨rfl, HB.out⟩
      · have e : decide (okS ⟨id, g, ⟨ex, srcs, fa, fc⟩⟩) = false := decide_eq_false fun h => h3 h.2.2.1
        rw [e]
        have h3' : decide ((srcs.length : Int) ≤ 16) = false := decide_eq_false (by omega)
        clear e h2 h3
        go_enter Try.func47, Try.ntmps47
        go_wp2_with fail
        refine (aIsAsked g _).mono ?_
        rintro e w1 ⟨rfl, rfl⟩
        rw [D2.out]
        go_wp2_with fail
        go_ret
        exact ⟨rfl, bel1 w _⟩
    · have h2' : asked g = false := by simpa using h2
      have D2 := Lib.hid h2'
      have e : decide (okS ⟨id, g, ⟨ex, srcs, fa, fc⟩⟩) = false := decide_eq_false fun h => h2 h.2.1
      rw [e]
      clear e h2 h2'
      go_enter Try.func47, Try.ntmps47
      go_wp2_with fail
      refine (aIsAsked g _).mono ?_
      rintro e w1 ⟨rfl, rfl⟩
      rw [D2.out]
      go_wp2_with fail
      go_ret
      exact ⟨rfl, bel1 w _⟩
  · have e : decide (okS ⟨id, g, ⟨ex, srcs, fa, fc⟩⟩) = false := decide_eq_false fun h => h1 (by have h4 : 1 ≤ id := h.1; omega)
    rw [e]
    have h1' : decide ((0 : Int) < id) = false := decide_eq_false h1
    clear e h1
    go_enter Try.func47, Try.ntmps47
    go_wp2_with fail
    go_ret
    exact ⟨rfl, bel1 w _⟩
end Go.Proofs.Ytmcbbccbonadjaa
/- Which hosts are right: the program's answer. -/
namespace Go.Proofs.Ytmcbbccbonadjaa
set_option linter.unusedVariables false
open Go.RowKit

theorem host_new (w : World) (v : Value) : (w.alloc (.cells #[v] 36)).cell? ⟨w.heap.size, 0, none⟩ = some v := by
  have hN := Go.Deep.blk_alloc_new w (.cells #[v] 36)
  simp only [World.cell?, hN]; rfl
theorem sock_new (w : World) (v0 v1 v2 v3 : Value) : (w.alloc (.cells #[v0, v1, v2, v3] 38)).cell? ⟨w.heap.size, 0, none⟩ = some v0 ∧ (w.alloc (.cells #[v0, v1, v2, v3] 38)).cell? ⟨w.heap.size, 1, none⟩ = some v1 ∧ (w.alloc (.cells #[v0, v1, v2, v3] 38)).cell? ⟨w.heap.size, 2, none⟩ = some v2 ∧ (w.alloc (.cells #[v0, v1, v2, v3] 38)).cell? ⟨w.heap.size, 3, none⟩ = some v3 := by
  have hN := Go.Deep.blk_alloc_new w (.cells #[v0, v1, v2, v3] 38)
  exact ⟨by simp only [World.cell?, hN]; rfl, by simp only [World.cell?, hN]; rfl, by simp only [World.cell?, hN]; rfl, by simp only [World.cell?, hN]; rfl⟩
theorem wrapT {x : Int} (h0 : -9223372036854775808 ≤ x) (h1 : x ≤ 9223372036854775807) : IntKind.i64.wrap x = x := by
  simp [IntKind.wrap, IntKind.bits, IntKind.signed]; omega
set_option maxHeartbeats 4000000 in
theorem takeS {α : Type} {l : List α} {k : Nat} {x : α} (h : l[k]? = some x) : l.take (k + 1) = l.take k ++ [x] := by
  rw [List.take_add_one, h]; rfl
theorem ris_step {ss : List Sk} {k : Nat} {s p : Sk} (h : Ris (ss.take (k + 1))) (hs : ss[k + 1]? = some s) (hp : ss[k]? = some p) (hlt : p.id < s.id) : Ris (ss.take (k + 1 + 1)) := by
  unfold Ris at *
  rw [takeS hs, List.pairwise_append]
  refine ⟨h, by simp, fun x hx y hy => ?_⟩
  simp at hy; subst hy
  rw [takeS hp, List.pairwise_append] at h
  rw [takeS hp] at hx
  rcases List.mem_append.1 hx with h1 | h1
  · have := h.2.2 x h1 p (by simp); omega
  · simp at h1; subst h1; exact hlt
theorem ris_one {ss : List Sk} {s : Sk} (hs : ss[0]? = some s) : Ris (ss.take (0 + 1)) := by
  rw [takeS hs]; unfold Ris; simp
theorem ris_not {ss : List Sk} {k : Nat} {s p : Sk} (hs : ss[k + 1]? = some s) (hp : ss[k]? = some p) (hge : ¬ p.id < s.id) : ¬ Ris ss := by
  unfold Ris
  intro h
  rw [List.pairwise_iff_getElem] at h
  have h1 := (List.getElem?_eq_some_iff.1 hs)
  have h2 := (List.getElem?_eq_some_iff.1 hp)
  obtain ⟨h1, e1⟩ := h1
  obtain ⟨h2, e2⟩ := h2
  have := h k (k + 1) h2 h1 (by omega)
  rw [e1, e2] at this
  exact hge this
def rtNV (hb sb b off : Nat) (n c : Nat) (id g : Int) (ex : Bool) (srcs : List Int) (fa : Option Addr) (fc : Nat) (pid : Int) (m : Nat) : Nat → Value → List Value → World → Prop
  | 0, v, _, _ => v = .agg #[.int .i64 id, .int .u32 g, .bool ex, .slice fa srcs.length fc]
  | 1, v, _, _ => v = .bool false
  | 2, v, _, _ => v = .bool true
  | 3, v, _, _ => v = .bool true
  | 4, v, _, _ => v = undef
  | 5, v, _, _ => v = undef
  | 6, v, _, _ => v = undef
  | 7, v, _, _ => v = undef
  | 8, v, _, _ => v = undef
  | 9, v, _, _ => v = undef
  | 10, v, _, _ => v = undef
  | 11, v, _, _ => v = undef
  | 12, v, _, _ => v = undef
  | 13, v, _, _ => v = undef
  | 14, v, _, _ => v = undef
  | 15, v, _, _ => v = undef
  | 16, v, _, _ => v = undef
  | 17, v, _, _ => v = undef
  | 18, v, _, _ => v = .bool true
  | _, _, _, _ => True
def rtND : Nat → List Nat
  | 1 => [0]
  | 2 => [1]
  | 3 => [2, 1]
  | 4 => [3]
  | 5 => [4, 3]
  | 6 => [5, 3]
  | 7 => [6]
  | 8 => [7, 6]
  | 9 => [6]
  | 10 => [9, 6]
  | 11 => [8, 10, 6]
  | 12 => [11, 6]
  | 13 => [12, 6]
  | 14 => [6]
  | 15 => [14, 6]
  | 16 => [13, 15, 6]
  | 17 => [6, 16, 3]
  | 18 => [3, 17]
  | _ => []
def rtNN (i : Nat) : Bool := !([4, 5, 6, 7, 8, 9, 10, 11, 12, 13, 14, 15, 16, 17] : List Nat).contains i
theorem rtN_st (hb sb b off : Nat) (n c : Nat) (id g : Int) (ex : Bool) (srcs : List Int) (fa : Option Addr) (fc : Nat) (pid : Int) (m : Nat) {i : Nat} {v : Value} {us : List Value} {w w' : World}  (hr : True) (hv : rtNV hb sb b off n c id g ex srcs fa fc pid m i v us w) : rtNV hb sb b off n c id g ex srcs fa fc pid m i v us w' := by
  unfold rtNV at hv ⊢
  split at hv
  all_goals first
    | exact hv
def rtZV (hb sb b off : Nat) (n c : Nat) (id g : Int) (ex : Bool) (srcs : List Int) (fa : Option Addr) (fc : Nat) (pid : Int) (m : Nat) : Nat → Value → List Value → World → Prop
  | 0, v, _, _ => v = .agg #[.int .i64 id, .int .u32 g, .bool ex, .slice fa srcs.length fc]
  | 1, v, _, _ => v = .bool true
  | 2, v, _, _ => v = .bool false
  | 3, v, _, _ => v = .bool false
  | 4, v, _, _ => v = .int .i64 0
  | 5, v, _, _ => v = .bool false
  | 6, v, _, _ => v = .bool false
  | 7, v, _, _ => v = undef
  | 8, v, _, _ => v = undef
  | 9, v, _, _ => v = undef
  | 10, v, _, _ => v = undef
  | 11, v, _, _ => v = undef
  | 12, v, _, _ => v = undef
  | 13, v, _, _ => v = undef
  | 14, v, _, _ => v = undef
  | 15, v, _, _ => v = undef
  | 16, v, _, _ => v = undef
  | 17, v, _, _ => v = .bool false
  | 18, v, _, _ => v = .bool false
  | _, _, _, _ => True
def rtZD : Nat → List Nat
  | 1 => [0]
  | 2 => [1]
  | 3 => [2, 1]
  | 4 => [3]
  | 5 => [4, 3]
  | 6 => [5, 3]
  | 7 => [6]
  | 8 => [7, 6]
  | 9 => [6]
  | 10 => [9, 6]
  | 11 => [8, 10, 6]
  | 12 => [11, 6]
  | 13 => [12, 6]
  | 14 => [6]
  | 15 => [14, 6]
  | 16 => [13, 15, 6]
  | 17 => [6, 16, 3]
  | 18 => [3, 17]
  | _ => []
def rtZN (i : Nat) : Bool := !([7, 8, 9, 10, 11, 12, 13, 14, 15, 16] : List Nat).contains i
theorem rtZ_st (hb sb b off : Nat) (n c : Nat) (id g : Int) (ex : Bool) (srcs : List Int) (fa : Option Addr) (fc : Nat) (pid : Int) (m : Nat) {i : Nat} {v : Value} {us : List Value} {w w' : World}  (hr : True) (hv : rtZV hb sb b off n c id g ex srcs fa fc pid m i v us w) : rtZV hb sb b off n c id g ex srcs fa fc pid m i v us w' := by
  unfold rtZV at hv ⊢
  split at hv
  all_goals first
    | exact hv
def rtYV (hb sb b off : Nat) (n c : Nat) (id g : Int) (ex : Bool) (srcs : List Int) (fa : Option Addr) (fc : Nat) (pid : Int) (m : Nat) : Nat → Value → List Value → World → Prop
  | 0, v, _, _ => v = .agg #[.int .i64 id, .int .u32 g, .bool ex, .slice fa srcs.length fc]
  | 1, v, _, _ => v = .bool true
  | 2, v, _, _ => v = .bool false
  | 3, v, _, _ => v = .bool false
  | 4, v, _, _ => v = .int .i64 ((m : Int) + 1)
  | 5, v, _, _ => v = .bool true
  | 6, v, _, _ => v = .bool true
  | 7, v, _, _ => v = .pointer (some ⟨hb, 0, none⟩)
  | 8, v, _, _ => v = .slice (some ⟨b, off, none⟩) n c
  | 9, v, _, _ => v = .int .i64 ((m : Int) + 1)
  | 10, v, _, _ => v = .int .i64 (m : Int)
  | 11, v, _, _ => v = .pointer (some ⟨b, off + m * 4, none⟩)
  | 12, v, _, _ => v = .pointer (some ⟨b, off + m * 4, none⟩)
  | 13, v, _, _ => v = .int .i64 pid
  | 14, v, _, _ => v = .pointer (some ⟨sb, 0, none⟩)
  | 15, v, _, _ => v = .int .i64 id
  | 16, v, _, _ => v = .bool false
  | 17, v, _, _ => v = .bool false
  | 18, v, _, _ => v = .bool false
  | _, _, _, _ => True
def rtYD : Nat → List Nat
  | 1 => [0]
  | 2 => [1]
  | 3 => [2, 1]
  | 4 => [3]
  | 5 => [4, 3]
  | 6 => [5, 3]
  | 7 => [6]
  | 8 => [7, 6]
  | 9 => [6]
  | 10 => [9, 6]
  | 11 => [8, 10, 6]
  | 12 => [11, 6]
  | 13 => [12, 6]
  | 14 => [6]
  | 15 => [14, 6]
  | 16 => [13, 15, 6]
  | 17 => [6, 16, 3]
  | 18 => [3, 17]
  | _ => []
theorem rtY_st (hb sb b off : Nat) (n c : Nat) (id g : Int) (ex : Bool) (srcs : List Int) (fa : Option Addr) (fc : Nat) (pid : Int) (m : Nat) {i : Nat} {v : Value} {us : List Value} {w w' : World}  (hr : True) (hv : rtYV hb sb b off n c id g ex srcs fa fc pid m i v us w) : rtYV hb sb b off n c id g ex srcs fa fc pid m i v us w' := by
  unfold rtYV at hv ⊢
  split at hv
  all_goals first
    | exact hv
def rtXV (hb sb b off : Nat) (n c : Nat) (id g : Int) (ex : Bool) (srcs : List Int) (fa : Option Addr) (fc : Nat) (pid : Int) (m : Nat) : Nat → Value → List Value → World → Prop
  | 0, v, _, _ => v = .agg #[.int .i64 id, .int .u32 g, .bool ex, .slice fa srcs.length fc]
  | 1, v, _, _ => v = .bool true
  | 2, v, _, _ => v = .bool false
  | 3, v, _, _ => v = .bool false
  | 4, v, _, _ => v = .int .i64 ((m : Int) + 1)
  | 5, v, _, _ => v = .bool true
  | 6, v, _, _ => v = .bool true
  | 7, v, _, _ => v = .pointer (some ⟨hb, 0, none⟩)
  | 8, v, _, _ => v = .slice (some ⟨b, off, none⟩) n c
  | 9, v, _, _ => v = .int .i64 ((m : Int) + 1)
  | 10, v, _, _ => v = .int .i64 (m : Int)
  | 11, v, _, _ => v = .pointer (some ⟨b, off + m * 4, none⟩)
  | 12, v, _, _ => v = .pointer (some ⟨b, off + m * 4, none⟩)
  | 13, v, _, _ => v = .int .i64 pid
  | 14, v, _, _ => v = .pointer (some ⟨sb, 0, none⟩)
  | 15, v, _, _ => v = .int .i64 id
  | 16, v, _, _ => v = .bool true
  | 17, v, _, _ => v = .bool true
  | 18, v, _, _ => v = .bool true
  | _, _, _, _ => True
def rtXD : Nat → List Nat
  | 1 => [0]
  | 2 => [1]
  | 3 => [2, 1]
  | 4 => [3]
  | 5 => [4, 3]
  | 6 => [5, 3]
  | 7 => [6]
  | 8 => [7, 6]
  | 9 => [6]
  | 10 => [9, 6]
  | 11 => [8, 10, 6]
  | 12 => [11, 6]
  | 13 => [12, 6]
  | 14 => [6]
  | 15 => [14, 6]
  | 16 => [13, 15, 6]
  | 17 => [6, 16, 3]
  | 18 => [3, 17]
  | _ => []
theorem rtX_st (hb sb b off : Nat) (n c : Nat) (id g : Int) (ex : Bool) (srcs : List Int) (fa : Option Addr) (fc : Nat) (pid : Int) (m : Nat) {i : Nat} {v : Value} {us : List Value} {w w' : World}  (hr : True) (hv : rtXV hb sb b off n c id g ex srcs fa fc pid m i v us w) : rtXV hb sb b off n c id g ex srcs fa fc pid m i v us w' := by
  unfold rtXV at hv ⊢
  split at hv
  all_goals first
    | exact hv
set_option maxRecDepth 100000 in
set_option maxHeartbeats 8000000 in
theorem hRight (a : Option Addr) (n c : Nat) (ss : List Sk) (w : World) (hx : ss.length = n) (hn : n ≤ 1125899906842624) (hl : ∀ s ∈ ss, s.f.srcs.length ≤ 1000000000) (hH : Sks w a ss) :
    Calls Try.prog 29 #[.agg #[.slice a n c]] w fun e w' => e = .returned (.bool (decide (okH ss))) ∧ Below w.heap.size w w' := by
  have HX := Lib.hid hx
  have HL := Lib.hid hl
  have HH := Lib.hid hH
  clear hx hl hH
  go_enter Try.func29, Try.ntmps29
  go_wp2
  go_loopw [8] (fun v8 wr => ∃ k : Nat, v8 = .int .i64 (k : Int) ∧ k ≤ n ∧ (∀ s ∈ ss.take k, okS s) ∧ Ris (ss.take k) ∧ Below w.heap.size w wr ∧ wr.cell? ⟨w.heap.size, 0, none⟩ = some (.slice a n c)) (fun v _ => n - (intOf v).toNat)
  case atStart => exact ⟨0, rfl, by omega, by simp, by simp [Ris], bel1 w _, host_new w _⟩
  case round =>
    obtain ⟨k, rfl, hk, hal, hri, hB, hc0⟩ := hrel
    have HA := Lib.hid hal
    have HRI := Lib.hid hri
    have HB := Lib.hid hB
    have C := Lib.hid hc0
    clear hal hri hB hc0
    by_cases hlt : k < n
    · obtain ⟨b, off, rfl, hc⟩ := HH.out.at (k := k) (by rw [HX.out]; exact hlt)
      obtain ⟨⟨id, g, ⟨ex, srcs, fa, fc⟩⟩, hfk⟩ : ∃ s, ss[k]? = some s := ⟨_, List.getElem?_eq_getElem (by rw [HX.out]; exact hlt)⟩
      obtain ⟨⟨d0, d1, d2, d3⟩, hfo, -⟩ := (hc k _ hfk).below HB.out
      simp only [Flt.sl] at d0 d1 d2 d3 hfo
      have hs := HL.out _ (List.mem_of_getElem? hfk)
      have HFO := Lib.hid hfo
      have HK := Lib.hid hfk
      have HC := Lib.hid hc
      have hkz : (k : Int) < (n : Int) := by omega
      have hR := fun W (hb : Below wr.heap.size wr W) => hIsRight ⟨id, g, ⟨ex, srcs, fa, fc⟩⟩ W (hfo.below hb) hs
      simp only [Flt.sl] at hR
      have HR0 := Lib.hid hR
      clear hc hfk hfo hR
      obtain ⟨ok, hok⟩ : ∃ ok, decide (okS ⟨id, g, ⟨ex, srcs, fa, fc⟩⟩) = ok := ⟨_, rfl⟩
      rw [hok] at HR0
      have HD := Lib.hid hok
      clear hok
      go_wp2_with fail
      have hb1 := bel1 wr (.cells #[.int .i64 id, .int .u32 g, .bool ex, .slice fa srcs.length fc] 38)
      have HB1 := Lib.hid (HB.out.trans (hb1.mono HB.out.size))
      have hsn := sock_new wr (.int .i64 id) (.int .u32 g) (.bool ex) (.slice fa srcs.length fc)
      have S0 := Lib.hid hsn.1
      have S1 := Lib.hid hsn.2.1
      have S2 := Lib.hid hsn.2.2.1
      have S3 := Lib.hid hsn.2.2.2
      have C0 := Lib.hid ((hb1.cell (cell_lt C.out)).trans C.out)
      have HCC := Lib.hid (fun i s (hi : ss[i]? = some s) => (HC.out i s hi).below (HB.out.trans (hb1.mono HB.out.size)))
      have HR1 := Lib.hid (fun W (hW : Below (wr.alloc (.cells #[.int .i64 id, .int .u32 g, .bool ex, .slice fa srcs.length fc] 38)).heap.size (wr.alloc (.cells #[.int .i64 id, .int .u32 g, .bool ex, .slice fa srcs.length fc] 38)) W) => HR0.out W (hb1.trans (hW.mono hb1.size)))
      clear hb1 hsn HR0 HC C HB d0 d1 d2 d3
      generalize wr.alloc (.cells #[.int .i64 id, .int .u32 g, .bool ex, .slice fa srcs.length fc] 38) = w1 at *
      have HR := HR1
      clear HR1
      cases ok
      · have hno : Hid (¬ okS ⟨id, g, ⟨ex, srcs, fa, fc⟩⟩) := Lib.hid (of_decide_eq_false HD.out)
        have pid : Int := 0
        have m : Nat := 0
        refine wp_region_each4 (rtNV w.heap.size wr.heap.size b off n c id g ex srcs fa fc pid m) (fun W => Below w1.heap.size w1 W) (fun _ A B => Below A.heap.size A B) rtND rtNN [13, 14, 15, 16, 17, 18, 19, 20, 21, 22, 23, 24, 25, 26, 27, 28, 29, 30, 31] (by kernel_rfl) (by kernel_rfl) (by kernel_rfl) (Below.refl _ w1).drew
          (fun i j oi oj v us A B hoi hoj hij hw hSA hr hv => rtN_st _ _ _ _ _ _ _ _ _ _ _ _ _ _ trivial hv) ?hgd ?hng ?hsk
          ⟨?_, ?_, ?_, ?_, ?_, ?_, ?_, ?_, ?_, ?_, ?_, ?_, ?_, ?_, ?_, ?_, ?_, ?_, ?_, trivial⟩ ?hend
        case hgd =>
          intro i o g b hoi hog v us w hv
          have hi : i < 19 := (Array.getElem?_eq_some_iff.1 hoi).1
          have hc : i = 0 ∨ i = 1 ∨ i = 2 ∨ i = 3 ∨ i = 4 ∨ i = 5 ∨ i = 6 ∨ i = 7 ∨ i = 8 ∨ i = 9 ∨ i = 10 ∨ i = 11 ∨ i = 12 ∨ i = 13 ∨ i = 14 ∨ i = 15 ∨ i = 16 ∨ i = 17 ∨ i = 18 := by omega
          rcases hc with rfl | rfl | rfl | rfl | rfl | rfl | rfl | rfl | rfl | rfl | rfl | rfl | rfl | rfl | rfl | rfl | rfl | rfl | rfl
          · cases hoi; cases hog
          · cases hoi; cases hog
          · cases hoi; cases hog
          · cases hoi; cases hog
          · cases hoi; cases hog
            show v ≠ _
            rw [show v = _ from hv]
            intro e; cases e
          · cases hoi; cases hog
            show v ≠ _
            rw [show v = _ from hv]
            intro e; cases e
          · cases hoi; cases hog
            show v ≠ _
            rw [show v = _ from hv]
            intro e; cases e
          · cases hoi; cases hog
            show v ≠ _
            rw [show v = _ from hv]
            intro e; cases e
          · cases hoi; cases hog
            show v ≠ _
            rw [show v = _ from hv]
            intro e; cases e
          · cases hoi; cases hog
            show v ≠ _
            rw [show v = _ from hv]
            intro e; cases e
          · cases hoi; cases hog
            show v ≠ _
            rw [show v = _ from hv]
            intro e; cases e
          · cases hoi; cases hog
            show v ≠ _
            rw [show v = _ from hv]
            intro e; cases e
          · cases hoi; cases hog
            show v ≠ _
            rw [show v = _ from hv]
            intro e; cases e
          · cases hoi; cases hog
            show v ≠ _
            rw [show v = _ from hv]
            intro e; cases e
          · cases hoi; cases hog
            show v ≠ _
            rw [show v = _ from hv]
            intro e; cases e
          · cases hoi; cases hog
            show v ≠ _
            rw [show v = _ from hv]
            intro e; cases e
          · cases hoi; cases hog
            show v ≠ _
            rw [show v = _ from hv]
            intro e; cases e
          · cases hoi; cases hog
            show v ≠ _
            rw [show v = _ from hv]
            intro e; cases e
          · cases hoi; cases hog
        case hng =>
          intro i o hoi hr
          have hi : i < 19 := (Array.getElem?_eq_some_iff.1 hoi).1
          have hc : i = 0 ∨ i = 1 ∨ i = 2 ∨ i = 3 ∨ i = 4 ∨ i = 5 ∨ i = 6 ∨ i = 7 ∨ i = 8 ∨ i = 9 ∨ i = 10 ∨ i = 11 ∨ i = 12 ∨ i = 13 ∨ i = 14 ∨ i = 15 ∨ i = 16 ∨ i = 17 ∨ i = 18 := by omega
          rcases hc with rfl | rfl | rfl | rfl | rfl | rfl | rfl | rfl | rfl | rfl | rfl | rfl | rfl | rfl | rfl | rfl | rfl | rfl | rfl
          · exact absurd hr (by decide)
          · exact absurd hr (by decide)
          · exact absurd hr (by decide)
          · exact absurd hr (by decide)
          · cases hoi; exact ⟨_, _, rfl⟩
          · cases hoi; exact ⟨_, _, rfl⟩
          · cases hoi; exact ⟨_, _, rfl⟩
          · cases hoi; exact ⟨_, _, rfl⟩
          · cases hoi; exact ⟨_, _, rfl⟩
          · cases hoi; exact ⟨_, _, rfl⟩
          · cases hoi; exact ⟨_, _, rfl⟩
          · cases hoi; exact ⟨_, _, rfl⟩
          · cases hoi; exact ⟨_, _, rfl⟩
          · cases hoi; exact ⟨_, _, rfl⟩
          · cases hoi; exact ⟨_, _, rfl⟩
          · cases hoi; exact ⟨_, _, rfl⟩
          · cases hoi; exact ⟨_, _, rfl⟩
          · cases hoi; exact ⟨_, _, rfl⟩
          · exact absurd hr (by decide)
        case hsk =>
          intro i us w hr hS
          by_cases hi : i < 19
          · have hc : i = 0 ∨ i = 1 ∨ i = 2 ∨ i = 3 ∨ i = 4 ∨ i = 5 ∨ i = 6 ∨ i = 7 ∨ i = 8 ∨ i = 9 ∨ i = 10 ∨ i = 11 ∨ i = 12 ∨ i = 13 ∨ i = 14 ∨ i = 15 ∨ i = 16 ∨ i = 17 ∨ i = 18 := by omega
            rcases hc with rfl | rfl | rfl | rfl | rfl | rfl | rfl | rfl | rfl | rfl | rfl | rfl | rfl | rfl | rfl | rfl | rfl | rfl | rfl
            · exact absurd hr (by decide)
            · exact absurd hr (by decide)
            · exact absurd hr (by decide)
            · exact absurd hr (by decide)
            · exact rfl
            · exact rfl
            · exact rfl
            · exact rfl
            · exact rfl
            · exact rfl
            · exact rfl
            · exact rfl
            · exact rfl
            · exact rfl
            · exact rfl
            · exact rfl
            · exact rfl
            · exact rfl
            · exact absurd hr (by decide)
          · exact absurd hr (by rw [show rtNN i = true from by unfold rtNN; simp; omega]; decide)
        case refine_1 =>
          intro hrun a' w9 hS h0 hd
          have e4 : a'.tmps[4]?.getD undef = .pointer (some ⟨wr.heap.size, 0, none⟩) := evG (h0 4 (by kernel_rfl))
          have s0 := (hS.cell (cell_lt S0.out)).trans S0.out
          have s1 := (hS.cell (cell_lt S1.out)).trans S1.out
          have s2 := (hS.cell (cell_lt S2.out)).trans S2.out
          have s3 := (hS.cell (cell_lt S3.out)).trans S3.out
          refine Does2.value (.agg #[.int .i64 id, .int .u32 g, .bool ex, .slice fa srcs.length fc]) (w' := w9) ?_ ⟨rfl, hS, Below.refl _ _⟩
          clear hS h0 hd hrun
          go_simp
        case refine_2 =>
          intro hrun a' w9 hS h0 hd
          have e13 : a'.tmps[13]?.getD undef = .agg #[.int .i64 id, .int .u32 g, .bool ex, .slice fa srcs.length fc] := evG (hd 0 List.mem_cons_self)
          refine Does2.call 47 #[.agg #[.int .i64 id, .int .u32 g, .bool ex, .slice fa srcs.length fc]] (w' := w9) ?_ ((HR.out w9 hS).mono ?_)
          · clear hS h0 hd
            go_simp
          · rintro e w8 ⟨rfl, hb⟩
            exact ⟨_, rfl, rfl, hS.trans (hb.mono hS.size), hb⟩
        case refine_3 =>
          intro hrun a' w9 hS h0 hd
          have e14 : a'.tmps[14]?.getD undef = .bool false := evG (hd 1 List.mem_cons_self)
          refine Does2.value (.bool true) (w' := w9) ?_ ⟨rfl, hS, Below.refl _ _⟩
          clear hS h0 hd hrun
          go_simp
        case refine_4 =>
          intro hrun a' w9 hS h0 hd
          have e15 : a'.tmps[15]?.getD undef = .bool true := evG (hd 2 List.mem_cons_self)
          refine Does2.value (.bool true) (w' := w9) ?_ ⟨rfl, hS, Below.refl _ _⟩
          clear hS h0 hd hrun
          go_simp
        case refine_5 =>
          intro hrun a' w9 hS h0 hd
          exact absurd hrun (by decide)
        case refine_6 =>
          intro hrun a' w9 hS h0 hd
          exact absurd hrun (by decide)
        case refine_7 =>
          intro hrun a' w9 hS h0 hd
          exact absurd hrun (by decide)
        case refine_8 =>
          intro hrun a' w9 hS h0 hd
          exact absurd hrun (by decide)
        case refine_9 =>
          intro hrun a' w9 hS h0 hd
          exact absurd hrun (by decide)
        case refine_10 =>
          intro hrun a' w9 hS h0 hd
          exact absurd hrun (by decide)
        case refine_11 =>
          intro hrun a' w9 hS h0 hd
          exact absurd hrun (by decide)
        case refine_12 =>
          intro hrun a' w9 hS h0 hd
          exact absurd hrun (by decide)
        case refine_13 =>
          intro hrun a' w9 hS h0 hd
          exact absurd hrun (by decide)
        case refine_14 =>
          intro hrun a' w9 hS h0 hd
          exact absurd hrun (by decide)
        case refine_15 =>
          intro hrun a' w9 hS h0 hd
          exact absurd hrun (by decide)
        case refine_16 =>
          intro hrun a' w9 hS h0 hd
          exact absurd hrun (by decide)
        case refine_17 =>
          intro hrun a' w9 hS h0 hd
          exact absurd hrun (by decide)
        case refine_18 =>
          intro hrun a' w9 hS h0 hd
          exact absurd hrun (by decide)
        case refine_19 =>
          intro hrun a' w9 hS h0 hd
          have e16 : a'.tmps[16]?.getD undef = .bool true := evG (hd 3 List.mem_cons_self)
          have e30 : a'.tmps[30]?.getD undef = undef := evG (hd 17 (List.mem_cons_of_mem _ List.mem_cons_self))
          refine Does2.value (.bool true) (w' := w9) ?_ ⟨rfl, hS, Below.refl _ _⟩
          clear hS h0 hd hrun
          go_simp
        case hend =>
          intro f w9 hS hv
          have v31 := hv 18 (by decide)
          replace v31 : f 31 = .bool true := v31
          simp only [putAll, Act.put, List.setIfInBounds_toArray, List.set_cons_zero, List.set_cons_succ, v31]
          have HBS := Lib.hid hS
          clear hS hv v31
          go_wp2_with fail
          go_ret
          exact ⟨ret_bool (decide_eq_false fun h => hno.out (h.1 _ (List.mem_of_getElem? HK.out))).symm, HB1.out.trans (HBS.out.mono HB1.out.size)⟩
      · have hyes : okS ⟨id, g, ⟨ex, srcs, fa, fc⟩⟩ := of_decide_eq_true HD.out
        have HOK := Lib.hid hyes
        clear hyes
        rcases k with _ | m
        · have pid : Int := 0
          have m : Nat := 0
          simp only [Int.ofNat_zero] at *
          refine wp_region_each4 (rtZV w.heap.size wr.heap.size b off n c id g ex srcs fa fc pid m) (fun W => Below w1.heap.size w1 W) (fun _ A B => Below A.heap.size A B) rtZD rtZN [13, 14, 15, 16, 17, 18, 19, 20, 21, 22, 23, 24, 25, 26, 27, 28, 29, 30, 31] (by kernel_rfl) (by kernel_rfl) (by kernel_rfl) (Below.refl _ w1).drew
            (fun i j oi oj v us A B hoi hoj hij hw hSA hr hv => rtZ_st _ _ _ _ _ _ _ _ _ _ _ _ _ _ trivial hv) ?hgd ?hng ?hsk
            ⟨?_, ?_, ?_, ?_, ?_, ?_, ?_, ?_, ?_, ?_, ?_, ?_, ?_, ?_, ?_, ?_, ?_, ?_, ?_, trivial⟩ ?hend
          case hgd =>
            intro i o g b hoi hog v us w hv
            have hi : i < 19 := (Array.getElem?_eq_some_iff.1 hoi).1
            have hc : i = 0 ∨ i = 1 ∨ i = 2 ∨ i = 3 ∨ i = 4 ∨ i = 5 ∨ i = 6 ∨ i = 7 ∨ i = 8 ∨ i = 9 ∨ i = 10 ∨ i = 11 ∨ i = 12 ∨ i = 13 ∨ i = 14 ∨ i = 15 ∨ i = 16 ∨ i = 17 ∨ i = 18 := by omega
            rcases hc with rfl | rfl | rfl | rfl | rfl | rfl | rfl | rfl | rfl | rfl | rfl | rfl | rfl | rfl | rfl | rfl | rfl | rfl | rfl
            · cases hoi; cases hog
            · cases hoi; cases hog
            · cases hoi; cases hog
            · cases hoi; cases hog
            · cases hoi; cases hog; exact hv
            · cases hoi; cases hog; exact hv
            · cases hoi; cases hog; exact hv
            · cases hoi; cases hog
              show v ≠ _
              rw [show v = _ from hv]
              intro e; cases e
            · cases hoi; cases hog
              show v ≠ _
              rw [show v = _ from hv]
              intro e; cases e
            · cases hoi; cases hog
              show v ≠ _
              rw [show v = _ from hv]
              intro e; cases e
            · cases hoi; cases hog
              show v ≠ _
              rw [show v = _ from hv]
              intro e; cases e
            · cases hoi; cases hog
              show v ≠ _
              rw [show v = _ from hv]
              intro e; cases e
            · cases hoi; cases hog
              show v ≠ _
              rw [show v = _ from hv]
              intro e; cases e
            · cases hoi; cases hog
              show v ≠ _
              rw [show v = _ from hv]
              intro e; cases e
            · cases hoi; cases hog
              show v ≠ _
              rw [show v = _ from hv]
              intro e; cases e
            · cases hoi; cases hog
              show v ≠ _
              rw [show v = _ from hv]
              intro e; cases e
            · cases hoi; cases hog
              show v ≠ _
              rw [show v = _ from hv]
              intro e; cases e
            · cases hoi; cases hog; exact hv
            · cases hoi; cases hog
          case hng =>
            intro i o hoi hr
            have hi : i < 19 := (Array.getElem?_eq_some_iff.1 hoi).1
            have hc : i = 0 ∨ i = 1 ∨ i = 2 ∨ i = 3 ∨ i = 4 ∨ i = 5 ∨ i = 6 ∨ i = 7 ∨ i = 8 ∨ i = 9 ∨ i = 10 ∨ i = 11 ∨ i = 12 ∨ i = 13 ∨ i = 14 ∨ i = 15 ∨ i = 16 ∨ i = 17 ∨ i = 18 := by omega
            rcases hc with rfl | rfl | rfl | rfl | rfl | rfl | rfl | rfl | rfl | rfl | rfl | rfl | rfl | rfl | rfl | rfl | rfl | rfl | rfl
            · exact absurd hr (by decide)
            · exact absurd hr (by decide)
            · exact absurd hr (by decide)
            · exact absurd hr (by decide)
            · exact absurd hr (by decide)
            · exact absurd hr (by decide)
            · exact absurd hr (by decide)
            · cases hoi; exact ⟨_, _, rfl⟩
            · cases hoi; exact ⟨_, _, rfl⟩
            · cases hoi; exact ⟨_, _, rfl⟩
            · cases hoi; exact ⟨_, _, rfl⟩
            · cases hoi; exact ⟨_, _, rfl⟩
            · cases hoi; exact ⟨_, _, rfl⟩
            · cases hoi; exact ⟨_, _, rfl⟩
            · cases hoi; exact ⟨_, _, rfl⟩
            · cases hoi; exact ⟨_, _, rfl⟩
            · cases hoi; exact ⟨_, _, rfl⟩
            · exact absurd hr (by decide)
            · exact absurd hr (by decide)
          case hsk =>
            intro i us w hr hS
            by_cases hi : i < 19
            · have hc : i = 0 ∨ i = 1 ∨ i = 2 ∨ i = 3 ∨ i = 4 ∨ i = 5 ∨ i = 6 ∨ i = 7 ∨ i = 8 ∨ i = 9 ∨ i = 10 ∨ i = 11 ∨ i = 12 ∨ i = 13 ∨ i = 14 ∨ i = 15 ∨ i = 16 ∨ i = 17 ∨ i = 18 := by omega
              rcases hc with rfl | rfl | rfl | rfl | rfl | rfl | rfl | rfl | rfl | rfl | rfl | rfl | rfl | rfl | rfl | rfl | rfl | rfl | rfl
              · exact absurd hr (by decide)
              · exact absurd hr (by decide)
              · exact absurd hr (by decide)
              · exact absurd hr (by decide)
              · exact absurd hr (by decide)
              · exact absurd hr (by decide)
              · exact absurd hr (by decide)
              · exact rfl
              · exact rfl
              · exact rfl
              · exact rfl
              · exact rfl
              · exact rfl
              · exact rfl
              · exact rfl
              · exact rfl
              · exact rfl
              · exact absurd hr (by decide)
              · exact absurd hr (by decide)
            · exact absurd hr (by rw [show rtZN i = true from by unfold rtZN; simp; omega]; decide)
          case refine_1 =>
            intro hrun a' w9 hS h0 hd
            have e4 : a'.tmps[4]?.getD undef = .pointer (some ⟨wr.heap.size, 0, none⟩) := evG (h0 4 (by kernel_rfl))
            have s0 := (hS.cell (cell_lt S0.out)).trans S0.out
            have s1 := (hS.cell (cell_lt S1.out)).trans S1.out
            have s2 := (hS.cell (cell_lt S2.out)).trans S2.out
            have s3 := (hS.cell (cell_lt S3.out)).trans S3.out
            refine Does2.value (.agg #[.int .i64 id, .int .u32 g, .bool ex, .slice fa srcs.length fc]) (w' := w9) ?_ ⟨rfl, hS, Below.refl _ _⟩
            clear hS h0 hd hrun
            go_simp
          case refine_2 =>
            intro hrun a' w9 hS h0 hd
            have e13 : a'.tmps[13]?.getD undef = .agg #[.int .i64 id, .int .u32 g, .bool ex, .slice fa srcs.length fc] := evG (hd 0 List.mem_cons_self)
            refine Does2.call 47 #[.agg #[.int .i64 id, .int .u32 g, .bool ex, .slice fa srcs.length fc]] (w' := w9) ?_ ((HR.out w9 hS).mono ?_)
            · clear hS h0 hd
              go_simp
            · rintro e w8 ⟨rfl, hb⟩
              exact ⟨_, rfl, rfl, hS.trans (hb.mono hS.size), hb⟩
          case refine_3 =>
            intro hrun a' w9 hS h0 hd
            have e14 : a'.tmps[14]?.getD undef = .bool true := evG (hd 1 List.mem_cons_self)
            refine Does2.value (.bool false) (w' := w9) ?_ ⟨rfl, hS, Below.refl _ _⟩
            clear hS h0 hd hrun
            go_simp
          case refine_4 =>
            intro hrun a' w9 hS h0 hd
            have e15 : a'.tmps[15]?.getD undef = .bool false := evG (hd 2 List.mem_cons_self)
            refine Does2.value (.bool false) (w' := w9) ?_ ⟨rfl, hS, Below.refl _ _⟩
            clear hS h0 hd hrun
            go_simp
          case refine_5 =>
            intro hrun a' w9 hS h0 hd
            have e3 : a'.tmps[3]?.getD undef = .int .i64 0 := evG (h0 3 (by kernel_rfl))
            refine Does2.value (.int .i64 0) (w' := w9) ?_ ⟨rfl, hS, Below.refl _ _⟩
            clear hS h0 hd hrun
            go_simp
          case refine_6 =>
            intro hrun a' w9 hS h0 hd
            have e17 : a'.tmps[17]?.getD undef = .int .i64 0 := evG (hd 4 List.mem_cons_self)
            refine Does2.value (.bool false) (w' := w9) ?_ ⟨rfl, hS, Below.refl _ _⟩
            clear hS h0 hd hrun
            go_simp
          case refine_7 =>
            intro hrun a' w9 hS h0 hd
            have e18 : a'.tmps[18]?.getD undef = .bool false := evG (hd 5 List.mem_cons_self)
            refine Does2.value (.bool false) (w' := w9) ?_ ⟨rfl, hS, Below.refl _ _⟩
            clear hS h0 hd hrun
            go_simp
          case refine_8 =>
            intro hrun a' w9 hS h0 hd
            exact absurd hrun (by decide)
          case refine_9 =>
            intro hrun a' w9 hS h0 hd
            exact absurd hrun (by decide)
          case refine_10 =>
            intro hrun a' w9 hS h0 hd
            exact absurd hrun (by decide)
          case refine_11 =>
            intro hrun a' w9 hS h0 hd
            exact absurd hrun (by decide)
          case refine_12 =>
            intro hrun a' w9 hS h0 hd
            exact absurd hrun (by decide)
          case refine_13 =>
            intro hrun a' w9 hS h0 hd
            exact absurd hrun (by decide)
          case refine_14 =>
            intro hrun a' w9 hS h0 hd
            exact absurd hrun (by decide)
          case refine_15 =>
            intro hrun a' w9 hS h0 hd
            exact absurd hrun (by decide)
          case refine_16 =>
            intro hrun a' w9 hS h0 hd
            exact absurd hrun (by decide)
          case refine_17 =>
            intro hrun a' w9 hS h0 hd
            exact absurd hrun (by decide)
          case refine_18 =>
            intro hrun a' w9 hS h0 hd
            have e19 : a'.tmps[19]?.getD undef = .bool false := evG (hd 6 List.mem_cons_self)
            have e29 : a'.tmps[29]?.getD undef = undef := evG (hd 16 (List.mem_cons_of_mem _ List.mem_cons_self))
            refine Does2.value (.bool false) (w' := w9) ?_ ⟨rfl, hS, Below.refl _ _⟩
            clear hS h0 hd hrun
            go_simp
          case refine_19 =>
            intro hrun a' w9 hS h0 hd
            have e16 : a'.tmps[16]?.getD undef = .bool false := evG (hd 3 List.mem_cons_self)
            have e30 : a'.tmps[30]?.getD undef = .bool false := evG (hd 17 (List.mem_cons_of_mem _ List.mem_cons_self))
            refine Does2.value (.bool false) (w' := w9) ?_ ⟨rfl, hS, Below.refl _ _⟩
            clear hS h0 hd hrun
            go_simp
          case hend =>
            intro f w9 hS hv
            have v31 := hv 18 (by decide)
            replace v31 : f 31 = .bool false := v31
            simp only [putAll, Act.put, List.setIfInBounds_toArray, List.set_cons_zero, List.set_cons_succ, v31]
            have HBS := Lib.hid hS
            clear hS hv v31
            go_wp2_with fail
            go_roundw
            case rel => exact ⟨_, by go_num, by omega, by rw [takeS HK.out]; intro x hx; rcases List.mem_append.1 hx with h | h; exact HA.out x h; simp at h; subst h; exact HOK.out, ris_one HK.out, HB1.out.trans (HBS.out.mono HB1.out.size), (HBS.out.cell (cell_lt C0.out)).trans C0.out⟩
            case measure => simp [intOf]; omega
        · obtain ⟨⟨pid, pg, pf⟩, hpk⟩ : ∃ s, ss[m]? = some s := ⟨_, List.getElem?_eq_getElem (by rw [HX.out]; omega)⟩
          have hpc := (HCC.out m _ hpk).1.1
          have P0 := Lib.hid hpc
          have HP := Lib.hid hpk
          have hm1 : ((m + 1 : Nat) : Int) = (m : Int) + 1 := by omega
          rw [hm1] at *
          have HM : Hid (m < n) := Lib.hid (by omega)
          clear hpc hpk hm1
          by_cases hge : id ≤ pid
          · have hge1 : id ≤ pid := hge
            refine wp_region_each3 (rtXV w.heap.size wr.heap.size b off n c id g ex srcs fa fc pid m) (fun W => Below w1.heap.size w1 W) (fun _ A B => Below A.heap.size A B) rtXD [13, 14, 15, 16, 17, 18, 19, 20, 21, 22, 23, 24, 25, 26, 27, 28, 29, 30, 31] (by kernel_rfl) (by kernel_rfl) (by kernel_rfl) (Below.refl _ w1).drew
              (fun i j oi oj v us A B hoi hoj hij hw hSA hr hv => rtX_st _ _ _ _ _ _ _ _ _ _ _ _ _ _ trivial hv) ?hgd
              ⟨?_, ?_, ?_, ?_, ?_, ?_, ?_, ?_, ?_, ?_, ?_, ?_, ?_, ?_, ?_, ?_, ?_, ?_, ?_, trivial⟩ ?hend
            case hgd =>
              intro i o g b hoi hog v us w hv
              have hi : i < 19 := (Array.getElem?_eq_some_iff.1 hoi).1
              have hc : i = 0 ∨ i = 1 ∨ i = 2 ∨ i = 3 ∨ i = 4 ∨ i = 5 ∨ i = 6 ∨ i = 7 ∨ i = 8 ∨ i = 9 ∨ i = 10 ∨ i = 11 ∨ i = 12 ∨ i = 13 ∨ i = 14 ∨ i = 15 ∨ i = 16 ∨ i = 17 ∨ i = 18 := by omega
              rcases hc with rfl | rfl | rfl | rfl | rfl | rfl | rfl | rfl | rfl | rfl | rfl | rfl | rfl | rfl | rfl | rfl | rfl | rfl | rfl
              · cases hoi; cases hog
              · cases hoi; cases hog
              · cases hoi; cases hog
              · cases hoi; cases hog
              · cases hoi; cases hog; exact hv
              · cases hoi; cases hog; exact hv
              · cases hoi; cases hog; exact hv
              · cases hoi; cases hog; exact hv
              · cases hoi; cases hog; exact hv
              · cases hoi; cases hog; exact hv
              · cases hoi; cases hog; exact hv
              · cases hoi; cases hog; exact hv
              · cases hoi; cases hog; exact hv
              · cases hoi; cases hog; exact hv
              · cases hoi; cases hog; exact hv
              · cases hoi; cases hog; exact hv
              · cases hoi; cases hog; exact hv
              · cases hoi; cases hog; exact hv
              · cases hoi; cases hog
            case refine_1 =>
              intro a' w9 hS h0 hd
              have e4 : a'.tmps[4]?.getD undef = .pointer (some ⟨wr.heap.size, 0, none⟩) := evG (h0 4 (by kernel_rfl))
              have s0 := (hS.cell (cell_lt S0.out)).trans S0.out
              have s1 := (hS.cell (cell_lt S1.out)).trans S1.out
              have s2 := (hS.cell (cell_lt S2.out)).trans S2.out
              have s3 := (hS.cell (cell_lt S3.out)).trans S3.out
              refine Does2.value (.agg #[.int .i64 id, .int .u32 g, .bool ex, .slice fa srcs.length fc]) (w' := w9) ?_ ⟨rfl, hS, Below.refl _ _⟩
              clear hS h0 hd
              go_simp
            case refine_2 =>
              intro a' w9 hS h0 hd
              have e13 : a'.tmps[13]?.getD undef = .agg #[.int .i64 id, .int .u32 g, .bool ex, .slice fa srcs.length fc] := evG (hd 0 List.mem_cons_self)
              refine Does2.call 47 #[.agg #[.int .i64 id, .int .u32 g, .bool ex, .slice fa srcs.length fc]] (w' := w9) ?_ ((HR.out w9 hS).mono ?_)
              · clear hS h0 hd
                go_simp
              · rintro e w8 ⟨rfl, hb⟩
                exact ⟨_, rfl, rfl, hS.trans (hb.mono hS.size), hb⟩
            case refine_3 =>
              intro a' w9 hS h0 hd
              have e14 : a'.tmps[14]?.getD undef = .bool true := evG (hd 1 List.mem_cons_self)
              refine Does2.value (.bool false) (w' := w9) ?_ ⟨rfl, hS, Below.refl _ _⟩
              clear hS h0 hd
              go_simp
            case refine_4 =>
              intro a' w9 hS h0 hd
              have e15 : a'.tmps[15]?.getD undef = .bool false := evG (hd 2 List.mem_cons_self)
              refine Does2.value (.bool false) (w' := w9) ?_ ⟨rfl, hS, Below.refl _ _⟩
              clear hS h0 hd
              go_simp
            case refine_5 =>
              intro a' w9 hS h0 hd
              have e3 : a'.tmps[3]?.getD undef = .int .i64 ((m : Int) + 1) := evG (h0 3 (by kernel_rfl))
              refine Does2.value (.int .i64 ((m : Int) + 1)) (w' := w9) ?_ ⟨rfl, hS, Below.refl _ _⟩
              clear hS h0 hd
              go_simp
            case refine_6 =>
              intro a' w9 hS h0 hd
              have e17 : a'.tmps[17]?.getD undef = .int .i64 ((m : Int) + 1) := evG (hd 4 List.mem_cons_self)
              refine Does2.value (.bool true) (w' := w9) ?_ ⟨rfl, hS, Below.refl _ _⟩
              clear hS h0 hd
              go_simp
            case refine_7 =>
              intro a' w9 hS h0 hd
              have e18 : a'.tmps[18]?.getD undef = .bool true := evG (hd 5 List.mem_cons_self)
              refine Does2.value (.bool true) (w' := w9) ?_ ⟨rfl, hS, Below.refl _ _⟩
              clear hS h0 hd
              go_simp
            case refine_8 =>
              intro a' w9 hS h0 hd
              have e1 : a'.tmps[1]?.getD undef = .pointer (some ⟨w.heap.size, 0, none⟩) := evG (h0 1 (by kernel_rfl))
              refine Does2.value (.pointer (some ⟨w.heap.size, 0, none⟩)) (w' := w9) ?_ ⟨rfl, hS, Below.refl _ _⟩
              clear hS h0 hd
              go_simp
            case refine_9 =>
              intro a' w9 hS h0 hd
              have e20 : a'.tmps[20]?.getD undef = .pointer (some ⟨w.heap.size, 0, none⟩) := evG (hd 7 List.mem_cons_self)
              have c0 := (hS.cell (cell_lt C0.out)).trans C0.out
              refine Does2.value (.slice (some ⟨b, off, none⟩) n c) (w' := w9) ?_ ⟨rfl, hS, Below.refl _ _⟩
              clear hS h0 hd
              go_simp
            case refine_10 =>
              intro a' w9 hS h0 hd
              have e3 : a'.tmps[3]?.getD undef = .int .i64 ((m : Int) + 1) := evG (h0 3 (by kernel_rfl))
              refine Does2.value (.int .i64 ((m : Int) + 1)) (w' := w9) ?_ ⟨rfl, hS, Below.refl _ _⟩
              clear hS h0 hd
              go_simp
            case refine_11 =>
              intro a' w9 hS h0 hd
              have e22 : a'.tmps[22]?.getD undef = .int .i64 ((m : Int) + 1) := evG (hd 9 List.mem_cons_self)
              have hm0 := wrapT (x := (m : Int)) (by have := HM.out; omega) (by have := HM.out; omega)
              refine Does2.value (.int .i64 (m : Int)) (w' := w9) ?_ ⟨rfl, hS, Below.refl _ _⟩
              clear hS h0 hd
              go_simp
            case refine_12 =>
              intro a' w9 hS h0 hd
              have e21 : a'.tmps[21]?.getD undef = .slice (some ⟨b, off, none⟩) n c := evG (hd 8 List.mem_cons_self)
              have e23 : a'.tmps[23]?.getD undef = .int .i64 (m : Int) := evG (hd 10 (List.mem_cons_of_mem _ List.mem_cons_self))
              have hm0 := HM.out
              refine Does2.value (.pointer (some ⟨b, off + m * 4, none⟩)) (w' := w9) ?_ ⟨rfl, hS, Below.refl _ _⟩
              clear hS h0 hd
              go_simp
            case refine_13 =>
              intro a' w9 hS h0 hd
              have e24 : a'.tmps[24]?.getD undef = .pointer (some ⟨b, off + m * 4, none⟩) := evG (hd 11 List.mem_cons_self)
              refine Does2.value (.pointer (some ⟨b, off + m * 4, none⟩)) (w' := w9) ?_ ⟨rfl, hS, Below.refl _ _⟩
              clear hS h0 hd
              go_simp
            case refine_14 =>
              intro a' w9 hS h0 hd
              have e25 : a'.tmps[25]?.getD undef = .pointer (some ⟨b, off + m * 4, none⟩) := evG (hd 12 List.mem_cons_self)
              have p0 := (hS.cell (cell_lt P0.out)).trans P0.out
              refine Does2.value (.int .i64 pid) (w' := w9) ?_ ⟨rfl, hS, Below.refl _ _⟩
              clear hS h0 hd
              go_simp
            case refine_15 =>
              intro a' w9 hS h0 hd
              have e4 : a'.tmps[4]?.getD undef = .pointer (some ⟨wr.heap.size, 0, none⟩) := evG (h0 4 (by kernel_rfl))
              refine Does2.value (.pointer (some ⟨wr.heap.size, 0, none⟩)) (w' := w9) ?_ ⟨rfl, hS, Below.refl _ _⟩
              clear hS h0 hd
              go_simp
            case refine_16 =>
              intro a' w9 hS h0 hd
              have e27 : a'.tmps[27]?.getD undef = .pointer (some ⟨wr.heap.size, 0, none⟩) := evG (hd 14 List.mem_cons_self)
              have s0 := (hS.cell (cell_lt S0.out)).trans S0.out
              have s1 := (hS.cell (cell_lt S1.out)).trans S1.out
              have s2 := (hS.cell (cell_lt S2.out)).trans S2.out
              have s3 := (hS.cell (cell_lt S3.out)).trans S3.out
              refine Does2.value (.int .i64 id) (w' := w9) ?_ ⟨rfl, hS, Below.refl _ _⟩
              clear hS h0 hd
              go_simp
            case refine_17 =>
              intro a' w9 hS h0 hd
              have e26 : a'.tmps[26]?.getD undef = .int .i64 pid := evG (hd 13 List.mem_cons_self)
              have e28 : a'.tmps[28]?.getD undef = .int .i64 id := evG (hd 15 (List.mem_cons_of_mem _ List.mem_cons_self))
              refine Does2.value (.bool true) (w' := w9) ?_ ⟨rfl, hS, Below.refl _ _⟩
              clear hS h0 hd
              go_simp
            case refine_18 =>
              intro a' w9 hS h0 hd
              have e19 : a'.tmps[19]?.getD undef = .bool true := evG (hd 6 List.mem_cons_self)
              have e29 : a'.tmps[29]?.getD undef = .bool true := evG (hd 16 (List.mem_cons_of_mem _ List.mem_cons_self))
              refine Does2.value (.bool true) (w' := w9) ?_ ⟨rfl, hS, Below.refl _ _⟩
              clear hS h0 hd
              go_simp
            case refine_19 =>
              intro a' w9 hS h0 hd
              have e16 : a'.tmps[16]?.getD undef = .bool false := evG (hd 3 List.mem_cons_self)
              have e30 : a'.tmps[30]?.getD undef = .bool true := evG (hd 17 (List.mem_cons_of_mem _ List.mem_cons_self))
              refine Does2.value (.bool true) (w' := w9) ?_ ⟨rfl, hS, Below.refl _ _⟩
              clear hS h0 hd
              go_simp
            case hend =>
              intro f w9 hS hv
              have v31 := hv 18 (by decide)
              replace v31 : f 31 = .bool true := v31
              simp only [putAll, Act.put, List.setIfInBounds_toArray, List.set_cons_zero, List.set_cons_succ, v31]
              have HBS := Lib.hid hS
              clear hS hv v31
              go_wp2_with fail
              go_ret
              exact ⟨ret_bool (decide_eq_false fun h => ris_not HK.out HP.out (by show ¬ pid < id; omega) h.2.1).symm, HB1.out.trans (HBS.out.mono HB1.out.size)⟩
          · have hge1 : decide (id ≤ pid) = false := decide_eq_false hge
            have hlt2 : Hid (pid < id) := Lib.hid (by omega)
            refine wp_region_each3 (rtYV w.heap.size wr.heap.size b off n c id g ex srcs fa fc pid m) (fun W => Below w1.heap.size w1 W) (fun _ A B => Below A.heap.size A B) rtYD [13, 14, 15, 16, 17, 18, 19, 20, 21, 22, 23, 24, 25, 26, 27, 28, 29, 30, 31] (by kernel_rfl) (by kernel_rfl) (by kernel_rfl) (Below.refl _ w1).drew
              (fun i j oi oj v us A B hoi hoj hij hw hSA hr hv => rtY_st _ _ _ _ _ _ _ _ _ _ _ _ _ _ trivial hv) ?hgd
              ⟨?_, ?_, ?_, ?_, ?_, ?_, ?_, ?_, ?_, ?_, ?_, ?_, ?_, ?_, ?_, ?_, ?_, ?_, ?_, trivial⟩ ?hend
            case hgd =>
              intro i o g b hoi hog v us w hv
              have hi : i < 19 := (Array.getElem?_eq_some_iff.1 hoi).1
              have hc : i = 0 ∨ i = 1 ∨ i = 2 ∨ i = 3 ∨ i = 4 ∨ i = 5 ∨ i = 6 ∨ i = 7 ∨ i = 8 ∨ i = 9 ∨ i = 10 ∨ i = 11 ∨ i = 12 ∨ i = 13 ∨ i = 14 ∨ i = 15 ∨ i = 16 ∨ i = 17 ∨ i = 18 := by omega
              rcases hc with rfl | rfl | rfl | rfl | rfl | rfl | rfl | rfl | rfl | rfl | rfl | rfl | rfl | rfl | rfl | rfl | rfl | rfl | rfl
              · cases hoi; cases hog
              · cases hoi; cases hog
              · cases hoi; cases hog
              · cases hoi; cases hog
              · cases hoi; cases hog; exact hv
              · cases hoi; cases hog; exact hv
              · cases hoi; cases hog; exact hv
              · cases hoi; cases hog; exact hv
              · cases hoi; cases hog; exact hv
              · cases hoi; cases hog; exact hv
              · cases hoi; cases hog; exact hv
              · cases hoi; cases hog; exact hv
              · cases hoi; cases hog; exact hv
              · cases hoi; cases hog; exact hv
              · cases hoi; cases hog; exact hv
              · cases hoi; cases hog; exact hv
              · cases hoi; cases hog; exact hv
              · cases hoi; cases hog; exact hv
              · cases hoi; cases hog
            case refine_1 =>
              intro a' w9 hS h0 hd
              have e4 : a'.tmps[4]?.getD undef = .pointer (some ⟨wr.heap.size, 0, none⟩) := evG (h0 4 (by kernel_rfl))
              have s0 := (hS.cell (cell_lt S0.out)).trans S0.out
              have s1 := (hS.cell (cell_lt S1.out)).trans S1.out
              have s2 := (hS.cell (cell_lt S2.out)).trans S2.out
              have s3 := (hS.cell (cell_lt S3.out)).trans S3.out
              refine Does2.value (.agg #[.int .i64 id, .int .u32 g, .bool ex, .slice fa srcs.length fc]) (w' := w9) ?_ ⟨rfl, hS, Below.refl _ _⟩
              clear hS h0 hd
              go_simp
            case refine_2 =>
              intro a' w9 hS h0 hd
              have e13 : a'.tmps[13]?.getD undef = .agg #[.int .i64 id, .int .u32 g, .bool ex, .slice fa srcs.length fc] := evG (hd 0 List.mem_cons_self)
              refine Does2.call 47 #[.agg #[.int .i64 id, .int .u32 g, .bool ex, .slice fa srcs.length fc]] (w' := w9) ?_ ((HR.out w9 hS).mono ?_)
              · clear hS h0 hd
                go_simp
              · rintro e w8 ⟨rfl, hb⟩
                exact ⟨_, rfl, rfl, hS.trans (hb.mono hS.size), hb⟩
            case refine_3 =>
              intro a' w9 hS h0 hd
              have e14 : a'.tmps[14]?.getD undef = .bool true := evG (hd 1 List.mem_cons_self)
              refine Does2.value (.bool false) (w' := w9) ?_ ⟨rfl, hS, Below.refl _ _⟩
              clear hS h0 hd
              go_simp
            case refine_4 =>
              intro a' w9 hS h0 hd
              have e15 : a'.tmps[15]?.getD undef = .bool false := evG (hd 2 List.mem_cons_self)
              refine Does2.value (.bool false) (w' := w9) ?_ ⟨rfl, hS, Below.refl _ _⟩
              clear hS h0 hd
              go_simp
            case refine_5 =>
              intro a' w9 hS h0 hd
              have e3 : a'.tmps[3]?.getD undef = .int .i64 ((m : Int) + 1) := evG (h0 3 (by kernel_rfl))
              refine Does2.value (.int .i64 ((m : Int) + 1)) (w' := w9) ?_ ⟨rfl, hS, Below.refl _ _⟩
              clear hS h0 hd
              go_simp
            case refine_6 =>
              intro a' w9 hS h0 hd
              have e17 : a'.tmps[17]?.getD undef = .int .i64 ((m : Int) + 1) := evG (hd 4 List.mem_cons_self)
              refine Does2.value (.bool true) (w' := w9) ?_ ⟨rfl, hS, Below.refl _ _⟩
              clear hS h0 hd
              go_simp
            case refine_7 =>
              intro a' w9 hS h0 hd
              have e18 : a'.tmps[18]?.getD undef = .bool true := evG (hd 5 List.mem_cons_self)
              refine Does2.value (.bool true) (w' := w9) ?_ ⟨rfl, hS, Below.refl _ _⟩
              clear hS h0 hd
              go_simp
            case refine_8 =>
              intro a' w9 hS h0 hd
              have e1 : a'.tmps[1]?.getD undef = .pointer (some ⟨w.heap.size, 0, none⟩) := evG (h0 1 (by kernel_rfl))
              refine Does2.value (.pointer (some ⟨w.heap.size, 0, none⟩)) (w' := w9) ?_ ⟨rfl, hS, Below.refl _ _⟩
              clear hS h0 hd
              go_simp
            case refine_9 =>
              intro a' w9 hS h0 hd
              have e20 : a'.tmps[20]?.getD undef = .pointer (some ⟨w.heap.size, 0, none⟩) := evG (hd 7 List.mem_cons_self)
              have c0 := (hS.cell (cell_lt C0.out)).trans C0.out
              refine Does2.value (.slice (some ⟨b, off, none⟩) n c) (w' := w9) ?_ ⟨rfl, hS, Below.refl _ _⟩
              clear hS h0 hd
              go_simp
            case refine_10 =>
              intro a' w9 hS h0 hd
              have e3 : a'.tmps[3]?.getD undef = .int .i64 ((m : Int) + 1) := evG (h0 3 (by kernel_rfl))
              refine Does2.value (.int .i64 ((m : Int) + 1)) (w' := w9) ?_ ⟨rfl, hS, Below.refl _ _⟩
              clear hS h0 hd
              go_simp
            case refine_11 =>
              intro a' w9 hS h0 hd
              have e22 : a'.tmps[22]?.getD undef = .int .i64 ((m : Int) + 1) := evG (hd 9 List.mem_cons_self)
              have hm0 := wrapT (x := (m : Int)) (by have := HM.out; omega) (by have := HM.out; omega)
              refine Does2.value (.int .i64 (m : Int)) (w' := w9) ?_ ⟨rfl, hS, Below.refl _ _⟩
              clear hS h0 hd
              go_simp
            case refine_12 =>
              intro a' w9 hS h0 hd
              have e21 : a'.tmps[21]?.getD undef = .slice (some ⟨b, off, none⟩) n c := evG (hd 8 List.mem_cons_self)
              have e23 : a'.tmps[23]?.getD undef = .int .i64 (m : Int) := evG (hd 10 (List.mem_cons_of_mem _ List.mem_cons_self))
              have hm0 := HM.out
              refine Does2.value (.pointer (some ⟨b, off + m * 4, none⟩)) (w' := w9) ?_ ⟨rfl, hS, Below.refl _ _⟩
              clear hS h0 hd
              go_simp
            case refine_13 =>
              intro a' w9 hS h0 hd
              have e24 : a'.tmps[24]?.getD undef = .pointer (some ⟨b, off + m * 4, none⟩) := evG (hd 11 List.mem_cons_self)
              refine Does2.value (.pointer (some ⟨b, off + m * 4, none⟩)) (w' := w9) ?_ ⟨rfl, hS, Below.refl _ _⟩
              clear hS h0 hd
              go_simp
            case refine_14 =>
              intro a' w9 hS h0 hd
              have e25 : a'.tmps[25]?.getD undef = .pointer (some ⟨b, off + m * 4, none⟩) := evG (hd 12 List.mem_cons_self)
              have p0 := (hS.cell (cell_lt P0.out)).trans P0.out
              refine Does2.value (.int .i64 pid) (w' := w9) ?_ ⟨rfl, hS, Below.refl _ _⟩
              clear hS h0 hd
              go_simp
            case refine_15 =>
              intro a' w9 hS h0 hd
              have e4 : a'.tmps[4]?.getD undef = .pointer (some ⟨wr.heap.size, 0, none⟩) := evG (h0 4 (by kernel_rfl))
              refine Does2.value (.pointer (some ⟨wr.heap.size, 0, none⟩)) (w' := w9) ?_ ⟨rfl, hS, Below.refl _ _⟩
              clear hS h0 hd
              go_simp
            case refine_16 =>
              intro a' w9 hS h0 hd
              have e27 : a'.tmps[27]?.getD undef = .pointer (some ⟨wr.heap.size, 0, none⟩) := evG (hd 14 List.mem_cons_self)
              have s0 := (hS.cell (cell_lt S0.out)).trans S0.out
              have s1 := (hS.cell (cell_lt S1.out)).trans S1.out
              have s2 := (hS.cell (cell_lt S2.out)).trans S2.out
              have s3 := (hS.cell (cell_lt S3.out)).trans S3.out
              refine Does2.value (.int .i64 id) (w' := w9) ?_ ⟨rfl, hS, Below.refl _ _⟩
              clear hS h0 hd
              go_simp
            case refine_17 =>
              intro a' w9 hS h0 hd
              have e26 : a'.tmps[26]?.getD undef = .int .i64 pid := evG (hd 13 List.mem_cons_self)
              have e28 : a'.tmps[28]?.getD undef = .int .i64 id := evG (hd 15 (List.mem_cons_of_mem _ List.mem_cons_self))
              refine Does2.value (.bool false) (w' := w9) ?_ ⟨rfl, hS, Below.refl _ _⟩
              clear hS h0 hd
              go_simp
            case refine_18 =>
              intro a' w9 hS h0 hd
              have e19 : a'.tmps[19]?.getD undef = .bool true := evG (hd 6 List.mem_cons_self)
              have e29 : a'.tmps[29]?.getD undef = .bool false := evG (hd 16 (List.mem_cons_of_mem _ List.mem_cons_self))
              refine Does2.value (.bool false) (w' := w9) ?_ ⟨rfl, hS, Below.refl _ _⟩
              clear hS h0 hd
              go_simp
            case refine_19 =>
              intro a' w9 hS h0 hd
              have e16 : a'.tmps[16]?.getD undef = .bool false := evG (hd 3 List.mem_cons_self)
              have e30 : a'.tmps[30]?.getD undef = .bool false := evG (hd 17 (List.mem_cons_of_mem _ List.mem_cons_self))
              refine Does2.value (.bool false) (w' := w9) ?_ ⟨rfl, hS, Below.refl _ _⟩
              clear hS h0 hd
              go_simp
            case hend =>
              intro f w9 hS hv
              have v31 := hv 18 (by decide)
              replace v31 : f 31 = .bool false := v31
              simp only [putAll, Act.put, List.setIfInBounds_toArray, List.set_cons_zero, List.set_cons_succ, v31]
              have HBS := Lib.hid hS
              clear hS hv v31
              go_wp2_with fail
              go_roundw
              case rel => exact ⟨_, by go_num, by omega, by rw [takeS HK.out]; intro x hx; rcases List.mem_append.1 hx with h | h; exact HA.out x h; simp at h; subst h; exact HOK.out, ris_step HRI.out HK.out HP.out hlt2.out, HB1.out.trans (HBS.out.mono HB1.out.size), (HBS.out.cell (cell_lt C0.out)).trans C0.out⟩
              case measure => simp [intOf]; omega
    · obtain rfl : k = n := by omega
      have htk : ss.take k = ss := List.take_of_length_le (by rw [HX.out]; exact Nat.le_refl _)
      have HA' := HA.out
      have HRI' := HRI.out
      rw [htk] at HA' HRI'
      have HA2 := Lib.hid HA'
      have HRI2 := Lib.hid HRI'
      have c0 := C.out
      clear HA' HRI' htk
      have hle : decide ((k : Int) ≤ 32) = decide (okH ss) := decide_eq_decide.2 ⟨fun h => ⟨HA2.out, HRI2.out, by rw [HX.out]; omega⟩, fun h => by have := h.2.2; rw [HX.out] at this; omega⟩
      have HLE := Lib.hid hle
      clear hle
      go_wp2_with fail
      go_ret
      exact ⟨ret_bool HLE.out, HB.out⟩
end Go.Proofs.Ytmcbbccbonadjaa
/- Where a socket stands: sort.Search over the ids. -/
namespace Go.Proofs.Ytmcbbccbonadjaa
set_option linter.unusedVariables false
open Go.RowKit

def ids (ss : List Sk) : List Int := ss.map (·.id)
theorem ids_at {ss : List Sk} {k : Nat} {s : Sk} (h : ss[k]? = some s) : (ids ss).getD k 0 = s.id := by
  simp [ids, List.getD_eq_getElem?_getD, h]
set_option maxHeartbeats 1000000 in
theorem hLess (B I b off n c i : Nat) (ss : List Sk) (id : Int) (w : World) (hx : ss.length = n) (hi : i < n) (hn : n ≤ 1000000) (hb : w.cell? ⟨B, 0, none⟩ = some (.slice (some ⟨b, off, none⟩) n c)) (hI : w.cell? ⟨I, 0, none⟩ = some (.int .i64 id))
    (hc : ∀ (k : Nat) s, ss[k]? = some s → SkAt w b (off + k * 4) s) :
    Calls Try.prog 73 #[.int .i64 i, .pointer (some ⟨B, 0, none⟩), .pointer (some ⟨I, 0, none⟩)] w fun e w' => e = .returned (.bool (decide (id ≤ (ids ss).getD i 0))) ∧ ∃ q, w' = w.drewN q := by
  obtain ⟨s, hs⟩ : ∃ s, ss[i]? = some s := ⟨_, List.getElem?_eq_getElem (by omega)⟩
  rw [ids_at hs]
  have c0 : ∀ q, (w.drewN q).cell? ⟨B, 0, none⟩ = some (.slice (some ⟨b, off, none⟩) n c) := fun q => hb
  have c1 : ∀ q, (w.drewN q).cell? ⟨I, 0, none⟩ = some (.int .i64 id) := fun q => hI
  have c2 : ∀ q, (w.drewN q).cell? ⟨b, off + i * 4, none⟩ = some (.int .i64 s.id) := fun q => (hc i s hs).1.1
  have i0 : (0 : Int) ≤ (i : Int) := by omega
  have i1 : (i : Int) < (n : Int) := by omega
  clear hc hs hb hI
  go_enter Try.func73, Try.ntmps73
  go_wp2
  go_quiet (fail)
  go_wp2
  go_ret
  exact ⟨rfl, _, rfl⟩
set_option maxHeartbeats 2000000 in
theorem lSearch (B I n c : Nat) (a : Option Addr) (ss : List Sk) (id : Int) (w : World) (hx : ss.length = n) (hn : n ≤ 1000000) (hr : Ris ss) (hb : w.cell? ⟨B, 0, none⟩ = some (.slice a n c)) (hI : w.cell? ⟨I, 0, none⟩ = some (.int .i64 id))
    (hc : Sks w a ss) :
    Calls Try.prog 72 #[.int .i64 n, .func (.func 73) #[] #[.pointer (some ⟨B, 0, none⟩), .pointer (some ⟨I, 0, none⟩)]] w fun e w' =>
      ∃ k : Nat, e = .returned (.int .i64 k) ∧ k ≤ n ∧ (∀ j, j < k → (ids ss).getD j 0 < id) ∧ (∀ j, k ≤ j → j < n → id ≤ (ids ss).getD j 0) ∧ Below w.heap.size w w' := by
  have mono : Hid (∀ i j, i < j → j < n → (ids ss).getD i 0 < (ids ss).getD j 0) := Lib.hid (fun i j hij hj => by
    unfold Ris at hr
    rw [List.pairwise_iff_getElem] at hr
    have := hr i j (by omega) (by omega) hij
    rw [ids_at (List.getElem?_eq_getElem (by omega : i < ss.length)), ids_at (List.getElem?_eq_getElem (by omega : j < ss.length))]
    exact this)
  have HL : Hid (∀ (i : Nat) w1, i < n → Below w.heap.size w w1 → Calls Try.prog 73 #[.int .i64 i, .pointer (some ⟨B, 0, none⟩), .pointer (some ⟨I, 0, none⟩)] w1 fun e w' => e = .returned (.bool (decide (id ≤ (ids ss).getD i 0))) ∧ ∃ q, w' = w1.drewN q) :=
    Lib.hid (fun i w1 hi hb1 => by
      obtain ⟨b, off, rfl, hcc⟩ := hc.at (k := i) (by omega)
      exact hLess B I b off n c i ss id w1 hx hi hn ((hb1.cell (cell_lt hb)).trans hb) ((hb1.cell (cell_lt hI)).trans hI) fun k s hk => (hcc k s hk).below hb1)
  clear hx hb hI hc hr
  go_enter Try.func72, Try.ntmps72
  go_wp2
  go_loopw [5, 6] (fun v5 v6 wr => ∃ i j : Nat, v5 = .int .i64 (i : Int) ∧ v6 = .int .i64 (j : Int) ∧ i ≤ j ∧ j ≤ n ∧ (∀ k, k < i → (ids ss).getD k 0 < id) ∧ (∀ k, j ≤ k → k < n → id ≤ (ids ss).getD k 0) ∧ Below w.heap.size w wr) (fun v5 v6 _ => (intOf v6).toNat - (intOf v5).toNat)
  case atStart => exact ⟨0, n, rfl, rfl, by omega, by omega, fun k hk => absurd hk (by omega), fun k h1 h2 => absurd h1 (by omega), Below.refl _ _⟩
  case round =>
    obtain ⟨i, j, rfl, rfl, hij, hj, hlo, hhi, hB⟩ := hrel
    have HLO := Lib.hid hlo
    have HHI := Lib.hid hhi
    have HB := Lib.hid hB
    clear hlo hhi hB
    by_cases hlt : i < j
    · have hijz : (i : Int) < (j : Int) := by omega
      obtain ⟨m, hm⟩ : ∃ m : Nat, ((i : Int) + (j : Int)) / 2 = (m : Int) := ⟨(i + j) / 2, by omega⟩
      have h1 : i ≤ m ∧ m < j := by omega
      have HM := Lib.hid hm
      clear hm
      go_wp2_with fail
      rw [HM.out]
      refine (HL.out m wr (by omega) HB.out).mono ?_
      rintro e w2 ⟨rfl, q, rfl⟩
      by_cases hp : id ≤ (ids ss).getD m 0
      · have HP := Lib.hid hp
        rw [decide_eq_true hp]
        clear hp
        go_wp2_with fail
        go_roundw
        case rel => exact ⟨i, m, rfl, rfl, by omega, by omega, HLO.out, fun k hk1 hk2 => by
          have h2 := HP.out
          rcases Nat.lt_or_ge m k with h3 | h3
          · have := mono.out m k h3 hk2; omega
          · have e : k = m := by omega
            rw [e]; exact h2, bdrawn HB.out q⟩
        case measure => simp [intOf]; omega
      · have HP := Lib.hid hp
        rw [decide_eq_false hp]
        clear hp
        go_wp2_with fail
        go_roundw
        case rel => exact ⟨m + 1, j, by go_num, rfl, by omega, by omega, fun k hk1 => by
          have h2 := HP.out
          rcases Nat.lt_or_ge k m with h3 | h3
          · have := mono.out k m h3 (by omega); omega
          · have e : k = m := by omega
            rw [e]; omega, HHI.out, bdrawn HB.out q⟩
        case measure => simp [intOf]; omega
    · obtain rfl : i = j := by omega
      go_wp2_with fail
      go_ret
      exact ⟨i, rfl, hj, HLO.out, HHI.out, HB.out⟩
/-- Those below an id, and those above. -/
def lt' (id : Int) (ss : List Sk) : List Sk := ss.filter fun s => decide (s.id < id)
def gt' (id : Int) (ss : List Sk) : List Sk := ss.filter fun s => decide (id < s.id)
theorem split_at (id : Int) : ∀ (ss : List Sk) (k : Nat), k ≤ ss.length → (∀ j, j < k → (ids ss).getD j 0 < id) → (∀ j, k ≤ j → j < ss.length → id ≤ (ids ss).getD j 0) → ss.take k = lt' id ss ∧ ss.drop k = ss.filter (fun s => decide (id ≤ s.id))
  | [], k, _, _, _ => by simp [lt']
  | s :: r, 0, _, _, h2 => by
    have h3 : ∀ x ∈ s :: r, id ≤ x.id := fun x hx => by
      obtain ⟨i, hi, e⟩ := List.getElem_of_mem hx
      have := h2 i (by omega) hi
      rwa [ids_at (by rw [List.getElem?_eq_getElem hi, e])] at this
    constructor
    · unfold lt'
      rw [List.take_zero, eq_comm, List.filter_eq_nil_iff]
      intro x hx
      have := h3 x hx
      simp; omega
    · rw [List.drop_zero, eq_comm, List.filter_eq_self]
      intro x hx
      simpa using h3 x hx
  | s :: r, k + 1, hk, h1, h2 => by
    have h0 : s.id < id := by have := h1 0 (by omega); simpa [ids] using this
    have ih := split_at id r k (by simpa using hk) (fun j hj => by have := h1 (j + 1) (by omega); simpa [ids] using this) (fun j hj hj2 => by have := h2 (j + 1) (by omega) (by simp; omega); simpa [ids] using this)
    constructor
    · unfold lt' at *
      rw [List.take_succ_cons, List.filter_cons, if_pos (by simpa using h0), ih.1]
    · rw [List.drop_succ_cons, List.filter_cons, if_neg (by simp; omega), ih.2]
end Go.Proofs.Ytmcbbccbonadjaa
/- place: from where to where the socket of an id stands. -/
namespace Go.Proofs.Ytmcbbccbonadjaa
set_option linter.unusedVariables false
open Go.RowKit

theorem box2_new (w : World) (a : Option Addr) (n c : Nat) (id : Int) : ((w.alloc (.cells #[.slice a n c] 36)).alloc (.cells #[.int .i64 id] 3)).cell? ⟨w.heap.size, 0, none⟩ = some (.slice a n c) ∧ ((w.alloc (.cells #[.slice a n c] 36)).alloc (.cells #[.int .i64 id] 3)).cell? ⟨w.heap.size + 1, 0, none⟩ = some (.int .i64 id) := by
  constructor
  · rw [World.cell?_alloc_lt _ _ _ (by simp)]; exact host_new w _
  · have h := cell_new (w.alloc (.cells #[.slice a n c] 36)) #[.int .i64 id] 3 0
    rw [World.size_alloc] at h
    exact h
theorem gt_of (id : Int) (ss : List Sk) (hr : Ris ss) (k : Nat) (h : ss.drop k = ss.filter (fun s => decide (id ≤ s.id))) :
    (∀ s, ss[k]? = some s → s.id = id → ss.drop (k + 1) = gt' id ss) ∧ ((∀ s, ss[k]? = some s → s.id ≠ id) → ss.drop k = gt' id ss) := by
  have hg : gt' id ss = (ss.drop k).filter fun s => decide (id < s.id) := by
    rw [h, List.filter_filter]
    unfold gt'
    congr 1
    funext s
    by_cases h1 : id < s.id
    · simp [h1]; omega
    · simp [h1]
  have hp : ∀ (x : Sk) r, ss.drop k = x :: r → ∀ y ∈ r, x.id < y.id := fun x r e => by
    have h1 : (ss.drop k).Pairwise fun s t => s.id < t.id := List.Pairwise.sublist (List.drop_sublist k ss) hr
    rw [e, List.pairwise_cons] at h1
    exact h1.1
  constructor
  · intro s hs e
    have hk := (List.getElem?_eq_some_iff.1 hs)
    obtain ⟨hk, es⟩ := hk
    have hd : ss.drop k = s :: ss.drop (k + 1) := by rw [List.drop_eq_getElem_cons hk, es]
    rw [hg, hd, List.filter_cons, if_neg (by simp; omega), eq_comm, List.filter_eq_self]
    intro y hy
    have := hp _ _ hd y hy
    simp; omega
  · intro hne
    rw [hg, eq_comm, List.filter_eq_self]
    intro y hy
    have h1 : y ∈ ss.filter (fun s => decide (id ≤ s.id)) := h ▸ hy
    have h2 : id ≤ y.id := by simpa using (List.mem_filter.1 h1).2
    rcases hd : ss.drop k with _ | ⟨s, r⟩
    · rw [hd] at hy; cases hy
    · have hs : ss[k]? = some s := by
        have : (ss.drop k)[0]? = some s := by rw [hd]; rfl
        simpa using this
      have h3 := hne s hs
      have h4 : id ≤ s.id := by
        have h5 : s ∈ ss.filter (fun s => decide (id ≤ s.id)) := h ▸ (by rw [hd]; exact List.mem_cons_self ..)
        simpa using (List.mem_filter.1 h5).2
      rw [hd] at hy
      rcases List.mem_cons.1 hy with rfl | hy
      · simp; omega
      · have := hp _ _ hd y hy
        simp; omega
theorem no_id {id : Int} {ss : List Sk} {k : Nat} (h1 : ss.take k = lt' id ss) (h2 : ss.drop k = gt' id ss) : ∀ s ∈ ss, s.id ≠ id := by
  intro s hs e
  rw [← List.take_append_drop k ss, h1, h2] at hs
  rcases List.mem_append.1 hs with h | h
  · have := (List.mem_filter.1 h).2; simp at this; omega
  · have := (List.mem_filter.1 h).2; simp at this; omega
/-- What place answers. -/
def Placed (id : Int) (ss : List Sk) (k l : Nat) : Prop :=
  k ≤ l ∧ l ≤ ss.length ∧ ss.take k = lt' id ss ∧ ss.drop l = gt' id ss ∧ ((l = k ∧ ∀ s ∈ ss, s.id ≠ id) ∨ (l = k + 1 ∧ ∃ s, ss[k]? = some s ∧ s.id = id))
set_option maxHeartbeats 2000000 in
theorem hPlace (a : Option Addr) (n c : Nat) (ss : List Sk) (id : Int) (w : World) (hx : ss.length = n) (hn : n ≤ 1000000) (hr : Ris ss) (hH : Sks w a ss) :
    Calls Try.prog 46 #[.agg #[.slice a n c], .int .i64 id] w fun e w' => ∃ k l : Nat, e = .returned (.tuple #[.int .i64 k, .int .i64 l]) ∧ Placed id ss k l ∧ Below w.heap.size w w' := by
  have HX := Lib.hid hx
  have HRI := Lib.hid hr
  have hb2 := bel2 w (.cells #[.slice a n c] 36) (.cells #[.int .i64 id] 3)
  obtain ⟨c0, c1⟩ := box2_new w a n c id
  have hS := Lib.hid (lSearch w.heap.size (w.heap.size + 1) n c a ss id _ hx hn hr c0 c1 (hH.below hb2))
  have HB2 := Lib.hid hb2
  have HH := Lib.hid (hH.below hb2)
  clear hx hr hH hb2
  go_enter Try.func46, Try.ntmps46
  go_wp2_with fail
  generalize (w.alloc (.cells #[.slice a n c] 36)).alloc (.cells #[.int .i64 id] 3) = w1 at *
  refine hS.out.mono ?_
  rintro e w2 ⟨k, rfl, hk, hlo, hhi, hb⟩
  have hsp := split_at id ss k (by rw [HX.out]; exact hk) hlo (by rw [HX.out]; exact hhi)
  have hgt := gt_of id ss HRI.out k hsp.2
  have SP := Lib.hid hsp.1
  have GT := Lib.hid hgt
  have HB := Lib.hid (HB2.out.trans (hb.mono HB2.out.size))
  have H2 := Lib.hid (HH.out.below hb)
  have d0 : ∀ q, (w2.drewN q).cell? ⟨w.heap.size, 0, none⟩ = some (.slice a n c) := fun q => (hb.cell (cell_lt c0)).trans c0
  have d1 : ∀ q, (w2.drewN q).cell? ⟨w.heap.size + 1, 0, none⟩ = some (.int .i64 id) := fun q => (hb.cell (cell_lt c1)).trans c1
  clear hS hlo hhi hb hsp hgt c0 c1 HB2 HH
  have ans : ∀ (q l : Nat) (w3 : World), (l = k ∧ (∀ s, ss[k]? = some s → s.id ≠ id)) ∨ (l = k + 1 ∧ ∃ s, ss[k]? = some s ∧ s.id = id) → w3 = w2.drewN q → ∃ k' l' : Nat, Ending.returned (.tuple #[.int .i64 k, .int .i64 l]) = .returned (.tuple #[.int .i64 k', .int .i64 l']) ∧ Placed id ss k' l' ∧ Below w.heap.size w w3 := by
    rintro q l w3 h rfl
    rcases h with ⟨rfl, h⟩ | ⟨rfl, s, hs, e⟩
    · have h2 := GT.out.2 h
      exact ⟨l, l, rfl, ⟨Nat.le_refl _, by rw [HX.out]; exact hk, SP.out, h2, .inl ⟨rfl, no_id SP.out h2⟩⟩, bdrawn HB.out q⟩
    · exact ⟨k, k + 1, rfl, ⟨by omega, (List.getElem?_eq_some_iff.1 hs).1, SP.out, GT.out.1 s hs e, .inr ⟨rfl, s, hs, e⟩⟩, bdrawn HB.out q⟩
  have ANS := Lib.hid ans
  clear ans
  by_cases hlt : k < n
  · obtain ⟨b, off, rfl, hc⟩ := H2.out.at (k := k) (by rw [HX.out]; exact hlt)
    obtain ⟨s, hs⟩ : ∃ s, ss[k]? = some s := ⟨_, List.getElem?_eq_getElem (by rw [HX.out]; exact hlt)⟩
    have d2 : ∀ q, (w2.drewN q).cell? ⟨b, off + k * 4, none⟩ = some (.int .i64 s.id) := fun q => (hc k s hs).1.1
    have HS := Lib.hid hs
    have k0 : (0 : Int) ≤ (k : Int) := by omega
    have k1 : (k : Int) < (n : Int) := by omega
    clear hc hs
    by_cases he : s.id = id
    · have HE := Lib.hid he
      have he' : (s.id == id) = true := by simpa using he
      clear he
      go_wp2
      go_quiet (fail)
      go_wp2
      go_ret2
      exact ANS.out _ (k + 1) _ (.inr ⟨rfl, s, HS.out, HE.out⟩) rfl
    · have HE := Lib.hid he
      have he' : (s.id == id) = false := by simpa using he
      clear he
      go_wp2
      go_quiet (fail)
      go_wp2
      go_ret2
      exact ANS.out _ k _ (.inl ⟨rfl, fun t ht => by rw [HS.out] at ht; cases ht; exact HE.out⟩) rfl
  · have k1 : decide ((k : Int) < (n : Int)) = false := decide_eq_false (by omega)
    have HN : Hid (ss[k]? = none) := Lib.hid (List.getElem?_eq_none (by rw [HX.out]; omega))
    go_wp2
    go_quiet (fail)
    go_wp2
    go_ret2
    exact ANS.out _ k _ (.inl ⟨rfl, fun t ht => by rw [HN.out] at ht; cases ht⟩) rfl
end Go.Proofs.Ytmcbbccbonadjaa
/- Rows of sockets of a call's own: Clone, Grow, Concat. -/
namespace Go.Proofs.Ytmcbbccbonadjaa
set_option linter.unusedVariables false
open Go.RowKit

/-- A socket's cells. -/
def Sk.cs (s : Sk) : List Value := [.int .i64 s.id, .int .u32 s.g, .bool s.f.ex, s.f.sl]
def sv (ss : List Sk) : List Value := ss.flatMap Sk.cs
theorem sv_len (ss : List Sk) : (sv ss).length = ss.length * 4 := by
  induction ss with
  | nil => rfl
  | cons s r ih => simp only [sv, List.flatMap_cons, List.length_append, List.length_cons] at *; rw [ih]; simp [Sk.cs]; omega
theorem sv_append (a b : List Sk) : sv (a ++ b) = sv a ++ sv b := by simp [sv]
theorem sv_at (ss : List Sk) : ∀ (k : Nat) (s : Sk), ss[k]? = some s → ∀ j, j < 4 → (sv ss)[k * 4 + j]? = s.cs[j]? := by
  induction ss with
  | nil => intro k s h; simp at h
  | cons t r ih =>
    intro k s h j hj
    have e : sv (t :: r) = t.cs ++ sv r := by simp [sv]
    rw [e]
    cases k with
    | zero =>
      simp at h; subst h
      rw [List.getElem?_append_left (by simp [Sk.cs]; omega)]
      simp
    | succ k =>
      have h' : r[k]? = some s := by simpa using h
      rw [List.getElem?_append_right (by simp [Sk.cs]; omega)]
      rw [show (k + 1) * 4 + j - (Sk.cs t).length = k * 4 + j by simp [Sk.cs]; omega]
      exact ih k s h' j hj
theorem cs_one (s : Sk) : ∀ u ∈ s.cs, u.oneCell' = true := by
  intro u hu
  simp only [Sk.cs, List.mem_cons, List.not_mem_nil, or_false] at hu
  rcases hu with rfl | rfl | rfl | rfl <;> rfl
theorem sv_one (ss : List Sk) : ∀ u ∈ sv ss, u.oneCell' = true := by
  intro u hu
  obtain ⟨s, _, h⟩ := List.mem_flatMap.1 hu
  exact cs_one s u h
theorem Sks.cell {w : World} {b off : Nat} {ss : List Sk} (h : Sks w (some ⟨b, off, none⟩) ss) : ∀ j u, (sv ss)[j]? = some u → w.cell? ⟨b, off + j, none⟩ = some u := by
  intro j u hu
  have hj : j < ss.length * 4 := by rw [← sv_len]; exact (List.getElem?_eq_some_iff.1 hu).1
  obtain ⟨b', off', e, hc⟩ := h.at (k := j / 4) (by omega)
  cases e
  obtain ⟨s, hs⟩ : ∃ s, ss[j / 4]? = some s := ⟨_, List.getElem?_eq_getElem (by omega)⟩
  obtain ⟨⟨c0, c1, c2, c3⟩, _⟩ := hc _ s hs
  have h1 := sv_at ss (j / 4) s hs (j % 4) (by omega)
  rw [show j / 4 * 4 + j % 4 = j by omega, hu] at h1
  have h2 : j % 4 = 0 ∨ j % 4 = 1 ∨ j % 4 = 2 ∨ j % 4 = 3 := by omega
  rcases h2 with h2 | h2 | h2 | h2
  · rw [h2] at h1; simp [Sk.cs] at h1; rw [h1, show off + j = off + j / 4 * 4 by omega]; exact c0
  · rw [h2] at h1; simp [Sk.cs] at h1; rw [h1, show off + j = off + j / 4 * 4 + 1 by omega]; exact c1
  · rw [h2] at h1; simp [Sk.cs] at h1; rw [h1, show off + j = off + j / 4 * 4 + 2 by omega]; exact c2
  · rw [h2] at h1; simp [Sk.cs] at h1; rw [h1, show off + j = off + j / 4 * 4 + 3 by omega]; exact c3
/-- What a row of the call's own holds. -/
theorem own_at {w : World} {B n size : Nat} {e : TypeId} {a : Option Addr} {c : Nat} {xs : List Value} (h : w.ownsRow B e size (.slice a n c) n xs) (hn : 0 < n) : ∃ g, a = some ⟨g, 0, none⟩ ∧ B ≤ g ∧ n ≤ c ∧ ∀ j u, xs[j]? = some u → w.cell? ⟨g, j, none⟩ = some u := by
  obtain ⟨hl, h⟩ := h
  rcases h with ⟨_, e⟩ | ⟨g, cap, cur, e, hB, hg, hnc, _, hsz, htk⟩
  · omega
  · simp at e
    obtain ⟨rfl, rfl⟩ := e
    refine ⟨g, rfl, hB, hnc, fun j u hu => ?_⟩
    have hj : j < n * size := by have := (List.getElem?_eq_some_iff.1 hu).1; omega
    rw [← htk, List.getElem?_take_of_lt hj] at hu
    simp [World.cell?, hg]
    simpa using hu
theorem own_sks {w : World} {B n : Nat} {a : Option Addr} {c : Nat} {ss : List Sk} (h : w.ownsRow B 38 4 (.slice a n c) n (sv ss)) (hn : ss.length = n) (hf : ∀ s ∈ ss, FOk w s.f ∧ 0 ≤ s.g ∧ s.g ≤ 4294967295) : Sks w a ss := by
  by_cases h0 : n = 0
  · exact .inl (List.eq_nil_of_length_eq_zero (by omega))
  obtain ⟨g, rfl, _, _, hc⟩ := own_at h (by omega)
  refine .inr ⟨g, 0, rfl, fun k s hk => ⟨⟨?_, ?_, ?_, ?_⟩, hf s (List.mem_of_getElem? hk)⟩⟩
  · exact hc (0 + k * 4) _ (by rw [Nat.zero_add]; exact sv_at ss k s hk 0 (by omega))
  · exact hc (0 + k * 4 + 1) _ (by rw [Nat.zero_add]; exact sv_at ss k s hk 1 (by omega))
  · exact hc (0 + k * 4 + 2) _ (by rw [Nat.zero_add]; exact sv_at ss k s hk 2 (by omega))
  · exact hc (0 + k * 4 + 3) _ (by rw [Nat.zero_add]; exact sv_at ss k s hk 3 (by omega))
/-- append(own, src...), elements of whatever size. -/
theorem wpList_app_row {w : World} {ops : Array Oper} {rest : List Oper} {o : Oper} {a : Act} {Q : Exit → Act → World → Prop} (hgd : o.guard = none) (t e : TypeId) (i0 : TypeInfo) (zv : Value) (size bytes : Nat) (hu : Try.prog.underlying t = some (.slice e)) (hi : Try.prog.info? e = some i0)
    (hz0 : i0.zero = some zv) (hz1 : i0.size = size) (hz2 : i0.bytes = bytes) (hzs : zv.cells.size = size) (hsz : 0 < size) (hby : bytes ≤ 1000) (s x : Operand)
    (ho : o.op = .call { callee := .builtin .append, args := #[s, x], argTypes := #[t, t] }) (B : Nat) (v : Value) (n : Nat) (xs : List Value) (hs : a.eval s = v) (hown : w.ownsRow B e size v n xs)
    (a2 : Option Addr) (m c : Nat) (ys : List Value) (hx : a.eval x = .slice a2 m c) (hy : ys.length = m * size) (hb : ∀ ad, a2 = some ad → ∀ j u, ys[j]? = some u → w.cell? (ad.add j) = some u) (h1 : ∀ u ∈ ys, u.oneCell' = true) (hf : a2 = none → m = 0 ∧ c = 0) (hn : n + m ≤ 1000000) (hB : B ≤ w.heap.size)
    (h : ∀ a' cap' w', Hid (w'.ownsRow B e size (.slice a' (n + m) cap') (n + m) (xs ++ ys)) → Hid (w.grownBy w' v.ownBlock) → wpList Try.prog ops Q rest (a.put o.dst (.slice a' (n + m) cap')) w') : wpList Try.prog ops Q (o :: rest) a w := by
  match a2, hf, hb, hx with
  | none, hf, hb, hx =>
    obtain ⟨rfl, rfl⟩ := hf rfl
    obtain rfl : ys = [] := List.eq_nil_of_length_eq_zero (by simpa using hy)
    refine wpList_append_own_none hgd s x t ho B e i0 size hu hi v n xs hs hown hx ?_
    obtain ⟨a1, c1, rfl, _⟩ := own_sl hown
    have := h a1 c1 w (by rw [List.append_nil]; exact hown) (World.grownBy.refl _ _)
    simpa using this
  | some ad, hf, hb, hx =>
    refine wpList_append_own w hgd s x t ho B e i0 zv size bytes hu hi hz0 hz1 hz2 hzs hsz v n xs hs hown ad m c ys hx hy (hb ad rfl) h1 (by unfold maxLen; omega) (by have : (n + m) * bytes ≤ 1000000 * 1000 := Nat.mul_le_mul (by omega) hby; omega) hB ?_
    intro v' w' hown' hgrow _
    obtain ⟨a', c', rfl, _⟩ := own_sl hown'
    exact h a' c' w' hown' hgrow
theorem infoK : (Try.prog.info? 38).map (fun i => (i.zero, i.size, i.bytes)) = some (some (.agg #[.int .i64 0, .int .u32 0, .bool false, .slice none 0 0]), 4, 48) := by kernel_rfl
theorem infoF : (Try.prog.info? 25).map (fun i => (i.zero, i.size, i.bytes)) = some (some (.agg #[.bool false, .slice none 0 0]), 2, 32) := by kernel_rfl
theorem infoRec : (Try.prog.info? 68).map (fun i => (i.zero, i.size, i.bytes)) = some (some (.agg #[.int .u8 0, .int .u32 0, .slice none 0 0]), 3, 32) := by kernel_rfl
theorem own_mt (w : World) (B : Nat) (e : TypeId) (size : Nat) (hB : B ≤ w.heap.size) : (w.alloc (.cells #[] e)).ownsRow B e size (.slice (some ⟨w.heap.size, 0, none⟩) 0 0) 0 [] :=
  ⟨by simp, .inr ⟨_, 0, #[], rfl, hB, Go.Deep.blk_alloc_new _ _, Nat.le_refl _, by decide, by simp, by simp⟩⟩
set_option maxRecDepth 100000 in
/-- slices.Clone of addresses, wherever they lie. -/
theorem lCloneA (a : Option Addr) (n c : Nat) (xs : List Int) (w : World) (hx : xs.length = n) (hm : n ≤ 200000) (h : As w a xs) (hf : a = none → c = 0) :
    Calls Try.prog 66 #[.slice a n c] w fun e w' => Out w e w' xs := by
  have HX := Lib.hid hx
  match a, hf, h with
  | none, hf, h =>
    obtain rfl : c = 0 := hf rfl
    have e : xs = [] := by
      rcases h.1 with e | ⟨_, _, e, _⟩
      · exact e
      · cases e
    subst e
    obtain rfl : n = 0 := by simpa using hx.symm
    clear hx
    have heq : ∀ w : World, (binOp .eql 23 (.slice none 0 0) (.slice none 0 0)).run Try.prog w = .ok (.bool true) w := fun w => by kernel_rfl
    go_enter Try.func66, Try.ntmps66
    go_wp2
    go_ret
    exact ⟨⟨none, 0, rfl, As.nil _ _, .inl ⟨rfl, rfl, rfl⟩⟩, Below.refl _ _⟩
  | some ad, hf, h =>
    have H := Lib.hid h
    have OW := Lib.hid (own_mt w w.heap.size 27 1 (Nat.le_refl _))
    clear hx h hf
    have heq : ∀ w : World, (binOp .eql 23 (.slice (some ad) n c) (.slice none 0 0)).run Try.prog w = .ok (.bool false) w := fun w => by kernel_rfl
    go_enter Try.func66, Try.ntmps66
    go_wp2_with ((refine wpList_app_as rfl (.tmp 5) (.tmp 6) rfl w.heap.size _ 0 [] rfl OW.out rfl (some ad) n c xs rfl HX.out (H.out.below (bel1 w _)) (by intro e; cases e) (by omega) (by simp) ?_; intro a' cap' w' hown hg))
    go_ret
    have ho := hown.out
    rw [List.nil_append] at ho
    have hb : Below w.heap.size w w' := (bel1 w _).trans (grown_below OW.out hg.out (by simp))
    simp only [Nat.zero_add] at ho ⊢
    rw [← HX.out] at ho ⊢
    obtain ⟨a1, c1, e1, hfl⟩ := own_sl ho
    cases e1
    exact ⟨⟨_, _, rfl, (AsO.of rfl ho).as H.out.2, hfl⟩, hb⟩
set_option maxRecDepth 100000 in
set_option maxHeartbeats 1000000 in
/-- slices.Grow of nothing. -/
theorem lGrow (n : Nat) (w : World) (hn : n ≤ 1000000) :
    Calls Try.prog 85 #[.slice none 0 0, .int .i64 n] w fun e w' => ∃ a c, e = .returned (.slice a 0 c) ∧ w'.ownsRow w.heap.size 38 4 (.slice a 0 c) 0 [] ∧ Below w.heap.size w w' := by
  obtain ⟨i0, hi, hz0, hz1, hz2⟩ := info_parts infoK
  by_cases h0 : 0 < n
  · have hr : ∀ ty, (Builtin.append_ #[34, 3] ty #[.slice none 0 0, .int .i64 n]).run Try.prog w = _ := fun ty => Lib.run_append_nil_zeros w 34 3 ty 38 i0 _ .i64 .i64 Try.underlying34 Try.underlying3 hi hz0 n h0 (by omega) (by omega) (by rw [hz2]; omega)
    have hge := grownCap_ge w n 0 38
    have hle := grownCap_le_maxLen w n 0 38 (by unfold maxLen; omega)
    have hown : (w.drew.alloc (.cells (Builtin.zeroCells (Value.agg #[.int .i64 0, .int .u32 0, .bool false, .slice none 0 0]).cells n ++ Builtin.zeroCells (Value.agg #[.int .i64 0, .int .u32 0, .bool false, .slice none 0 0]).cells (grownCap w n 0 38 - n)) 38)).ownsRow w.heap.size 38 4 (.slice (some ⟨w.heap.size, 0, none⟩) 0 (grownCap w n 0 38)) 0 [] := by
      refine ⟨by simp, .inr ⟨_, _, _, rfl, Nat.le_refl _, Go.Deep.blk_alloc_new w.drew _, Nat.zero_le _, hle, ?_, by simp⟩⟩
      simp only [Array.size_append, size_zeroCells, Value.cells, List.size_toArray, List.length_cons, List.length_nil]
      omega
    have hbel : Below w.heap.size w (w.drew.alloc (.cells (Builtin.zeroCells (Value.agg #[.int .i64 0, .int .u32 0, .bool false, .slice none 0 0]).cells n ++ Builtin.zeroCells (Value.agg #[.int .i64 0, .int .u32 0, .bool false, .slice none 0 0]).cells (grownCap w n 0 38 - n)) 38)) := (bdrawn (Below.refl _ w) 1).alloc (Nat.le_refl _) _
    have HOW := Lib.hid hown
    have HBE := Lib.hid hbel
    clear hown hbel
    go_enter Try.func85, Try.ntmps85
    go_wp2_with (at_builtin; refine Lib.wpList_append_run _ rfl (.tmp 20) (.tmp 21) _ _ rfl _ _ rfl rfl _ _ (hr _) ?_)
    go_ret
    exact ⟨_, _, rfl, HOW.out, HBE.out⟩
  · obtain rfl : n = 0 := by omega
    go_enter Try.func85, Try.ntmps85
    go_wp2
    go_ret
    exact ⟨none, 0, rfl, World.ownsRow_nil _ _ _ _, Below.refl _ _⟩
end Go.Proofs.Ytmcbbccbonadjaa
/- Rows of sockets, one behind the other. -/
namespace Go.Proofs.Ytmcbbccbonadjaa
set_option linter.unusedVariables false
open Go.RowKit

/-- Rows of sockets, and where they lie. -/
abbrev Rw := List Sk × Option Addr × Nat
def Rws (w : World) (A : Option Addr) (R : List Rw) : Prop := R = [] ∨ ∃ b off, A = some ⟨b, off, none⟩ ∧ ∀ (k : Nat) r, R[k]? = some r → w.cell? ⟨b, off + k, none⟩ = some (.slice r.2.1 r.1.length r.2.2) ∧ Sks w r.2.1 r.1 ∧ (r.2.1 = none → r.2.2 = 0)
theorem Rws.below {w w' : World} {A : Option Addr} {R : List Rw} (h : Rws w A R) (hb : Below w.heap.size w w') : Rws w' A R := by
  rcases h with h | ⟨b, off, e, hc⟩
  · exact .inl h
  · exact .inr ⟨b, off, e, fun k r hk => ⟨(hb.cell (cell_lt (hc k r hk).1)).trans (hc k r hk).1, (hc k r hk).2.1.below hb, (hc k r hk).2.2⟩⟩
theorem Rws.at {w : World} {A : Option Addr} {R : List Rw} (h : Rws w A R) {k : Nat} (hk : k < R.length) : ∃ b off, A = some ⟨b, off, none⟩ ∧ ∀ (k : Nat) r, R[k]? = some r → w.cell? ⟨b, off + k, none⟩ = some (.slice r.2.1 r.1.length r.2.2) ∧ Sks w r.2.1 r.1 ∧ (r.2.1 = none → r.2.2 = 0) := by
  rcases h with e | h
  · rw [e] at hk; simp at hk
  · exact h
/-- All of them. -/
def alls (R : List Rw) : List Sk := R.flatMap (·.1)
theorem alls_snoc (R : List Rw) (r : Rw) : alls (R ++ [r]) = alls R ++ r.1 := by simp [alls]
theorem alls_take (R : List Rw) (k : Nat) : (alls (R.take k)).length ≤ (alls R).length := by
  have h : alls R = alls (R.take k) ++ alls (R.drop k) := by
    unfold alls; rw [← List.flatMap_append, List.take_append_drop]
  rw [h, List.length_append]; omega
theorem row_src {w : World} {a2 : Option Addr} {ss : List Sk} (h : Sks w a2 ss) : ∀ ad, a2 = some ad → ∀ j u, (sv ss)[j]? = some u → w.cell? (ad.add j) = some u := by
  intro ad e j u hu
  subst e
  have hj : j < ss.length * 4 := by rw [← sv_len]; exact (List.getElem?_eq_some_iff.1 hu).1
  obtain ⟨b, off, e, _⟩ := h.at (k := 0) (by omega)
  cases e
  rw [add_flat]; exact h.cell j u hu
theorem row_nil {w : World} {a2 : Option Addr} {ss : List Sk} {c : Nat} (h : Sks w a2 ss) (hf : a2 = none → c = 0) : a2 = none → ss.length = 0 ∧ c = 0 := by
  intro e
  refine ⟨?_, hf e⟩
  rcases h with h | ⟨_, _, e2, _⟩
  · rw [h]; rfl
  · rw [e] at e2; cases e2
set_option maxRecDepth 100000 in
set_option maxHeartbeats 4000000 in
theorem lConcat (A : Option Addr) (m cA : Nat) (R : List Rw) (w : World) (hx : R.length = m) (hm : m ≤ 1000) (hN : (alls R).length ≤ 100000) (hR : Rws w A R) :
    Calls Try.prog 76 #[.slice A m cA] w fun e w' => ∃ a c, e = .returned (.slice a (alls R).length c) ∧ w'.ownsRow w.heap.size 38 4 (.slice a (alls R).length c) (alls R).length (sv (alls R)) ∧ Below w.heap.size w w' := by
  obtain ⟨i0, hi, hz0, hz1, hz2⟩ := info_parts infoK
  have HX := Lib.hid hx
  have HR := Lib.hid hR
  have HT := Lib.hid (alls_take R)
  clear hx hR
  go_enter Try.func76, Try.ntmps76
  go_wp2
  go_loopw [3, 11] (fun v3 v11 wr => ∃ k : Nat, v3 = .int .i64 ((alls (R.take k)).length : Int) ∧ v11 = .int .i64 (k : Int) ∧ k ≤ m ∧ wr = w) (fun _ v _ => m - (intOf v).toNat)
  case atStart => exact ⟨0, by simp [alls], rfl, by omega, rfl⟩
  case round =>
    obtain ⟨k, rfl, rfl, hk, hw⟩ := hrel
    replace hw := hw.symm
    subst hw
    have hl1 := HT.out k
    by_cases hlt : k < m
    · obtain ⟨b, off, rfl, hc⟩ := HR.out.at (k := k) (by rw [HX.out]; exact hlt)
      obtain ⟨⟨rs, ra, rc⟩, hfk⟩ : ∃ r, R[k]? = some r := ⟨_, List.getElem?_eq_getElem (by rw [HX.out]; exact hlt)⟩
      have c0 := (hc k _ hfk).1
      have HS := Lib.hid (show alls (R.take (k + 1)) = alls (R.take k) ++ rs by rw [takeS hfk, alls_snoc])
      have hl2 : (alls (R.take k)).length + rs.length ≤ 100000 := by have := HT.out (k + 1); rw [HS.out, List.length_append] at this; omega
      have hkz : (k : Int) < (m : Int) := by omega
      have h0 : decide (((alls (R.take k)).length : Int) + (rs.length : Int) < 0) = false := decide_eq_false (by omega)
      clear hc hfk
      go_wp2
      go_roundw
      case rel => exact ⟨k + 1, by rw [HS.out, List.length_append]; go_num, by go_num, by omega, by first | rfl | trivial⟩
      case measure => simp [intOf]; omega
    · obtain rfl : k = m := by omega
      have htk : R.take k = R := List.take_of_length_le (by rw [HX.out]; exact Nat.le_refl _)
      rw [htk] at hl1 ⊢
      clear htk
      go_wp2_with fail
      refine (lGrow (alls R).length w (by omega)).mono ?_
      rintro e w1 ⟨a1, c1, rfl, hown, hb⟩
      have OW := Lib.hid hown
      have HB := Lib.hid hb
      clear hown hb
      go_wp2_with fail
      go_loopw [6, 27] (fun v6 v27 wr2 => ∃ (j : Nat) (a2 : Option Addr) (c2 : Nat), v6 = .slice a2 (alls (R.take j)).length c2 ∧ v27 = .int .i64 (j : Int) ∧ j ≤ k ∧ wr2.ownsRow w.heap.size 38 4 (.slice a2 (alls (R.take j)).length c2) (alls (R.take j)).length (sv (alls (R.take j))) ∧ Below w.heap.size w wr2) (fun _ v _ => k - (intOf v).toNat)
      case atStart => exact ⟨0, a1, c1, by simp [alls], rfl, by omega, by simpa [alls, sv] using OW.out, HB.out⟩
      case round =>
        obtain ⟨j, a2, c2, rfl, rfl, hj, ho, hB2⟩ := hrel
        have HO := Lib.hid ho
        have HB2 := Lib.hid hB2
        have hl3 := HT.out j
        clear ho hB2
        by_cases hlt2 : j < k
        · obtain ⟨b, off, rfl, hc⟩ := HR.out.at (k := j) (by rw [HX.out]; exact hlt2)
          obtain ⟨⟨rs, ra, rc⟩, hfk⟩ : ∃ r, R[j]? = some r := ⟨_, List.getElem?_eq_getElem (by rw [HX.out]; exact hlt2)⟩
          obtain ⟨c0, hsk, hnil⟩ := hc j _ hfk
          replace c0 := (HB2.out.cell (cell_lt c0)).trans c0
          simp only [] at c0 hsk hnil
          have SK := Lib.hid (hsk.below HB2.out)
          have NI := Lib.hid (row_nil hsk hnil)
          have HS := Lib.hid (show alls (R.take (j + 1)) = alls (R.take j) ++ rs by rw [takeS hfk, alls_snoc])
          have hl4 : (alls (R.take j)).length + rs.length ≤ 100000 := by have := HT.out (j + 1); rw [HS.out, List.length_append] at this; omega
          have hjz : (j : Int) < (k : Int) := by omega
          clear hc hfk hsk hnil
          go_wp2_with ((refine wpList_app_row rfl 34 38 i0 _ 4 48 Try.underlying34 hi hz0 hz1 hz2 rfl (by decide) (by omega) (.tmp 31) (.tmp 32) rfl w.heap.size _ (alls (R.take j)).length (sv (alls (R.take j))) rfl HO.out ra rs.length rc (sv rs) rfl (sv_len rs) (row_src SK.out) (sv_one rs) NI.out (by omega) HB2.out.size ?_; intro a' cap' w' hown hg))
          go_roundw
          case rel =>
            refine ⟨j + 1, a', cap', by rw [HS.out, List.length_append], by go_num, by omega, ?_, HB2.out.trans (grown_below HO.out hg.out HB2.out.size)⟩
            rw [HS.out, List.length_append, sv_append]
            exact hown.out
          case measure => simp [intOf]; omega
        · obtain rfl : j = k := by omega
          have htk : R.take j = R := List.take_of_length_le (by rw [HX.out]; exact Nat.le_refl _)
          have HO' := HO.out
          rw [htk] at HO' ⊢
          clear HO htk
          go_wp2_with fail
          go_ret
          exact ⟨_, _, rfl, HO', HB2.out⟩
end Go.Proofs.Ytmcbbccbonadjaa
/- joined: a host of rows of sockets, which shares no memory with them. -/
namespace Go.Proofs.Ytmcbbccbonadjaa
set_option linter.unusedVariables false
open Go.RowKit

theorem sv_set : ∀ (ss : List Sk) (k : Nat) (s s' : Sk), ss[k]? = some s → s'.id = s.id → s'.g = s.g → s'.f.ex = s.f.ex → (sv ss).set (k * 4 + 3) s'.f.sl = sv (ss.set k s')
  | [], k, s, s', h, _, _, _ => by simp at h
  | t :: r, 0, s, s', h, h1, h2, h3 => by
    simp at h; subst h
    simp only [sv, List.flatMap_cons, List.set_cons_zero, Nat.zero_mul, Nat.zero_add]
    rw [List.set_append_left _ _ (by simp [Sk.cs])]
    simp [Sk.cs, h1, h2, h3]
  | t :: r, k + 1, s, s', h, h1, h2, h3 => by
    have h' : r[k]? = some s := by simpa using h
    have ih := sv_set r k s s' h' h1 h2 h3
    simp only [sv, List.flatMap_cons, List.set_cons_succ] at ih ⊢
    rw [List.set_append_right _ _ (by simp [Sk.cs]; omega), ← ih]
    congr 2
    simp [Sk.cs]; omega
theorem own_set {w : World} {B N size g c j : Nat} {e : TypeId} {xs : List Value} (v : Value) (h : w.ownsRow B e size (.slice (some ⟨g, 0, none⟩) N c) N xs) : (w.setCell ⟨g, j, none⟩ v).ownsRow B e size (.slice (some ⟨g, 0, none⟩) N c) N (xs.set j v) := by
  obtain ⟨hl, h⟩ := h
  refine ⟨by rw [List.length_set]; exact hl, ?_⟩
  rcases h with ⟨e1, _⟩ | ⟨g', cap, cur, e1, hB, hg, hnc, hm, hsz, htk⟩
  · cases e1
  · cases e1
    refine .inr ⟨_, _, cur.setIfInBounds j v, rfl, hB, ?_, hnc, hm, by simpa using hsz, ?_⟩
    · simp [World.setCell, Array.getElem?_modify, hg]
    · rw [Array.toList_setIfInBounds, List.take_set, htk]
theorem own_le {w : World} {B n size c : Nat} {a : Option Addr} {e : TypeId} {xs : List Value} (h : w.ownsRow B e size (.slice a n c) n xs) : n ≤ c := by
  rcases h.2 with ⟨e1, h0⟩ | ⟨g, cap, cur, e1, _, _, hnc, _⟩
  · omega
  · cases e1; exact hnc
theorem own_froz {w : World} {B N size g c : Nat} {e : TypeId} {xs : List Value} (h : w.ownsRow B e size (.slice (some ⟨g, 0, none⟩) N c) N xs) (j : Nat) : w.frozen? ⟨g, j, none⟩ = false := by
  obtain ⟨hl, h⟩ := h
  rcases h with ⟨e1, _⟩ | ⟨g', cap, cur, e1, hB, hg, hnc, hm, hsz, htk⟩
  · cases e1
  · cases e1
    simp [World.frozen?, hg]
theorem As.set {w : World} {a : Option Addr} {xs : List Int} (h : As w a xs) {g j : Nat} {u : Value} (hu : w.cell? ⟨g, j, none⟩ = some u) (hn : ∀ k x, u ≠ .int k x) (v : Value) : As (w.setCell ⟨g, j, none⟩ v) a xs := by
  refine ⟨?_, h.2⟩
  rcases h.1 with h1 | ⟨b, off, e, hc⟩
  · exact .inl h1
  · refine .inr ⟨b, off, e, fun k hk => ?_⟩
    have hk' := hc k hk
    rw [World.cell?_setCell_other _ _ _ _ (fun e => ?_)]
    · exact hk'
    · rw [e] at hu
      first
        | (rw [hk'] at hu; cases hu; exact hn _ _ rfl)
        | (rw [← e, hk'] at hu; cases hu; exact hn _ _ rfl)
theorem nm_set {ss : List Sk} {k : Nat} {s s' : Sk} (h : ss[k]? = some s) (hn : s'.nm = s.nm) : (ss.set k s').map Sk.nm = ss.map Sk.nm := by
  rw [List.map_set, hn]
  apply List.ext_getElem?
  intro i
  rw [List.getElem?_set]
  split
  · rename_i e; subst e
    split
    · simp [h]
    · rename_i h2; simp at h2; simp [h2]
  · rfl
/-- The result's variable, filled. -/
theorem fin_host {w w5 : World} {N : Nat} {x : Option Addr} {y z : Nat} (hR : w5.heap[N]? = some (.cells #[.slice x y z] 36 (0, 0))) (hb : Below N w w5) (a : Option Addr) (n c : Nat) :
    (w5.cell? ⟨N, 0, none⟩ = some (.slice x y z) ∧ w5.frozen? ⟨N, 0, none⟩ = false) ∧
    (loadVar 36 ⟨N, 0, none⟩).run Try.prog (w5.setCell ⟨N, 0, none⟩ (.slice a n c)) = .ok (.agg #[.slice a n c]) (w5.setCell ⟨N, 0, none⟩ (.slice a n c)) ∧
    Tm w5 (w5.setCell ⟨N, 0, none⟩ (.slice a n c)) ∧ Below N w (w5.setCell ⟨N, 0, none⟩ (.slice a n c)) ∧ (w5.setCell ⟨N, 0, none⟩ (.slice a n c)).heap[N]? = some (.cells #[.slice a n c] 36 (0, 0)) := by
  have hR2 : (w5.setCell ⟨N, 0, none⟩ (.slice a n c)).heap[N]? = some (.cells #[.slice a n c] 36 (0, 0)) := by simp [World.setCell, Array.getElem?_modify, hR]
  refine ⟨⟨by simp [World.cell?, hR], by simp [World.frozen?, hR]⟩, ?_, .inr ⟨N, ?_, But1.set _ _ _ _⟩, hb.setCell (p := ⟨N, 0, none⟩) (Nat.le_refl _) _, hR2⟩
  · generalize w5.setCell ⟨N, 0, none⟩ (.slice a n c) = W at *
    have c0 : W.cell? ⟨N, 0, none⟩ = some (.slice a n c) := by simp [World.cell?, hR2]
    clear hR2 hR hb
    go_simp
  · intro o v hv
    simp only [World.cell?, hR] at hv
    match o with
    | 0 => simp at hv; subst hv; exact ⟨fun _ _ e => (by cases e), fun _ e => (by cases e)⟩
    | o + 1 => simp at hv
/-- A host that is handed back. -/
def OutH (w : World) (e : Ending) (w' : World) (ss : List Sk) : Prop :=
  (∃ a c ss', e = .returned (.agg #[.slice a (List.length ss') c]) ∧ ss'.map Sk.nm = ss.map Sk.nm ∧ Sks w' a ss' ∧ Flat a ss'.length c ∧ ss'.length ≤ c) ∧ Below w.heap.size w w'
set_option maxRecDepth 100000 in
set_option maxHeartbeats 4000000 in
theorem hJoined (A : Option Addr) (m cA : Nat) (R : List Rw) (w : World) (hx : R.length = m) (hm : m ≤ 1000) (hN : (alls R).length ≤ 100000) (hl : ∀ s ∈ alls R, s.f.srcs.length ≤ 100000) (hR : Rws w A R) :
    Calls Try.prog 48 #[.slice A m cA] w fun e w' => OutH w e w' (alls R) := by
  have hb1 := bel1 w (.cells #[.slice none 0 0] 36)
  have hbox := Go.Deep.blk_alloc_new w (.cells #[.slice none 0 0] 36)
  have hok : ∀ s ∈ alls R, FOk w s.f ∧ 0 ≤ s.g ∧ s.g ≤ 4294967295 := fun s hs => by
    obtain ⟨r, hr, h⟩ := List.mem_flatMap.1 hs
    obtain ⟨k, hk, e⟩ := List.getElem_of_mem hr
    obtain ⟨b, off, _, hc⟩ := hR.at hk
    exact (hc k r (by rw [List.getElem?_eq_getElem hk, e])).2.1.mem h
  have HC := Lib.hid (lConcat A m cA R _ hx hm hN (hR.below hb1))
  have HOK := Lib.hid hok
  have HL := Lib.hid hl
  have HB1 := Lib.hid hb1
  have HBX := Lib.hid hbox
  clear hb1 hbox hok hl hx hR
  go_enter Try.func48, Try.ntmps48
  go_wp2_with fail
  have hs1 : (w.alloc (.cells #[.slice none 0 0] 36)).heap.size = w.heap.size + 1 := World.size_alloc _ _
  generalize w.alloc (.cells #[.slice none 0 0] 36) = w1 at *
  refine HC.out.mono ?_
  rintro e w2 ⟨a, c, rfl, hown, hb⟩
  have HOW := Lib.hid hown
  have HB2 := Lib.hid (HB1.out.trans (hb.mono HB1.out.size))
  have HBX2 := Lib.hid ((hb.block _ (Array.getElem?_eq_some_iff.1 HBX.out).1).trans HBX.out)
  clear hown hb HC HB1 HBX
  go_wp2_with fail
  go_loopw [10] (fun v10 wr => ∃ (k : Nat) (ss : List Sk), v10 = .int .i64 (k : Int) ∧ k ≤ (alls R).length ∧ ss.map Sk.nm = (alls R).map Sk.nm ∧ wr.ownsRow (w.heap.size + 1) 38 4 (.slice a (alls R).length c) (alls R).length (sv ss) ∧ (∀ s ∈ ss, FOk wr s.f ∧ 0 ≤ s.g ∧ s.g ≤ 4294967295) ∧
    Below w.heap.size w wr ∧ wr.heap[w.heap.size]? = some (.cells #[.slice none 0 0] 36 (0, 0))) (fun v _ => (alls R).length - (intOf v).toNat)
  case atStart => exact ⟨0, alls R, rfl, by omega, rfl, by rw [← hs1]; exact HOW.out, fun s hs => ⟨(HOK.out s hs).1.below HB2.out, (HOK.out s hs).2⟩, HB2.out, HBX2.out⟩
  case round =>
    obtain ⟨k, ss, rfl, hk, hnm, hown, hf, hB, hbx⟩ := hrel
    have hlen : ss.length = (alls R).length := by have := congrArg List.length hnm; simpa using this
    have HLEN := Lib.hid hlen
    have HNM := Lib.hid hnm
    have HO := Lib.hid hown
    have HF := Lib.hid hf
    have HB := Lib.hid hB
    have HBX := Lib.hid hbx
    clear hnm hown hf hB hbx hlen
    by_cases hlt : k < (alls R).length
    · obtain ⟨g, rfl, hgB, hNc, hcell⟩ := own_at HO.out (by omega)
      obtain ⟨⟨id, gr, ⟨ex, srcs, fa, fc⟩⟩, hsk⟩ : ∃ s, ss[k]? = some s := ⟨_, List.getElem?_eq_getElem (by rw [HLEN.out]; exact hlt)⟩
      have d0 := hcell (k * 4) _ (by have := sv_at ss k _ hsk 0 (by omega); simpa [Sk.cs] using this)
      have d1 := hcell (k * 4 + 1) _ (by have := sv_at ss k _ hsk 1 (by omega); simpa [Sk.cs] using this)
      have d2 := hcell (k * 4 + 2) _ (by have := sv_at ss k _ hsk 2 (by omega); simpa [Sk.cs] using this)
      have d3 := hcell (k * 4 + 3) _ (by have := sv_at ss k _ hsk 3 (by omega); simpa [Sk.cs] using this)
      simp only [Flt.sl] at d3
      have hmem := List.mem_of_getElem? hsk
      have hfk := HF.out _ hmem
      have hsl : srcs.length ≤ 100000 := by
        have h1 : (Sk.nm ⟨id, gr, ⟨ex, srcs, fa, fc⟩⟩) ∈ (alls R).map Sk.nm := HNM.out ▸ List.mem_map.2 ⟨_, hmem, rfl⟩
        obtain ⟨s', hs', e'⟩ := List.mem_map.1 h1
        have h2 := HL.out s' hs'
        have h3 : s'.f.srcs = srcs := by simpa [Sk.nm, Flt.nm] using congrArg (fun z => z.f.srcs) e'
        rwa [h3] at h2
      have HSK := Lib.hid hsk
      have HFK := Lib.hid hfk
      have hkz : (k : Int) < ((alls R).length : Int) := by omega
      have D3 := Lib.hid d3
      clear hcell hsk hmem hfk
      go_wp2_with fail
      have hb3 := bel1 wr (.cells #[.int .i64 id, .int .u32 gr, .bool ex, .slice fa srcs.length fc] 38)
      refine (lCloneA fa srcs.length fc srcs _ rfl (by omega) (HFK.out.1.1.below hb3) HFK.out.1.2).mono ?_
      rintro e w5 ⟨⟨a5, c5, rfl, hA5, hf5⟩, hb5⟩
      have hb35 := hb3.trans (hb5.mono hb3.size)
      have HA5 := Lib.hid hA5
      have HF5 := Lib.hid hf5
      have HB35 := Lib.hid hb35
      have hO5 := own_grown HO.out hb35 (Nat.le_refl _)
      have HO5 := Lib.hid hO5
      have e3 := (hb35.cell (cell_lt D3.out)).trans D3.out
      have E3 := Lib.hid e3
      have z3 := own_froz hO5 (k * 4 + 3)
      have z3' := own_froz hO5 (k * 4 + 2 + 1)
      clear hb3 hb5 hA5 hf5 hb35 hO5 d0 d1 d2 d3
      have hws : w.heap.size < wr.heap.size := (Array.getElem?_eq_some_iff.1 HBX.out).1
      go_wp2_with fail
      go_roundw
      case rel =>
        have hset := own_set (j := k * 4 + 3) (.slice a5 srcs.length c5) HO5.out
        have hsv := sv_set ss k _ ⟨id, gr, ⟨ex, srcs, a5, c5⟩⟩ HSK.out rfl rfl rfl
        simp only [Flt.sl] at hsv
        rw [hsv] at hset
        refine ⟨k + 1, ss.set k ⟨id, gr, ⟨ex, srcs, a5, c5⟩⟩, by go_num, by omega, (nm_set (s' := ⟨id, gr, ⟨ex, srcs, a5, c5⟩⟩) HSK.out rfl).trans HNM.out, hset, ?_, ?_, ?_⟩
        · intro s hs
          rcases List.mem_or_eq_of_mem_set hs with h | rfl
          · exact ⟨⟨((HF.out s h).1.1.below HB35.out).set E3.out (by intro _ _ e; cases e) _, (HF.out s h).1.2⟩, (HF.out s h).2⟩
          · exact ⟨⟨HA5.out.set E3.out (by intro _ _ e; cases e) _, flat_nil' HF5.out⟩, HFK.out.2⟩
        · exact (HB.out.trans (HB35.out.mono HB.out.size)).setCell (p := ⟨g, _, none⟩) (by show w.heap.size ≤ g; omega) _
        · rw [Below.heap_setCell _ ⟨g, _, none⟩ _ _ (by simp; omega)]
          exact (HB35.out.block _ hws).trans HBX.out
      case measure => simp [intOf]; omega
    · obtain rfl : k = (alls R).length := by omega
      obtain ⟨⟨r0, r1⟩, hl2, htm, hb9, -⟩ := fin_host HBX.out HB.out a (alls R).length c
      have HL2 := Lib.hid hl2
      have HTM := Lib.hid htm
      have HB9 := Lib.hid hb9
      clear hl2 htm hb9
      go_wp2_with fail
      refine ret_cell1 (p := 2) rfl rfl rfl HL2.out ?_
      have hsk := own_sks HO.out HLEN.out HF.out
      obtain ⟨a', c', e', hfl⟩ := own_sl HO.out
      cases e'
      exact ⟨⟨_, _, ss, by rw [HLEN.out], HNM.out, hsk.tm HTM.out, by rw [HLEN.out]; exact hfl, by rw [HLEN.out]; exact own_le HO.out⟩, HB9.out⟩
end Go.Proofs.Ytmcbbccbonadjaa
/- What a host wants of a group, and which groups it has. -/
namespace Go.Proofs.Ytmcbbccbonadjaa
set_option linter.unusedVariables false
open Go.RowKit

def fv (fs : List Flt) : List Value := fs.flatMap fun f => [.bool f.ex, f.sl]
theorem fv_snoc (fs : List Flt) (f : Flt) : fv (fs ++ [f]) = fv fs ++ [.bool f.ex, f.sl] := by simp [fv]
theorem fv_len (fs : List Flt) : (fv fs).length = fs.length * 2 := by
  induction fs with
  | nil => rfl
  | cons s r ih => simp only [fv, List.flatMap_cons, List.length_append, List.length_cons] at *; rw [ih]; simp; omega
theorem fv_at (fs : List Flt) : ∀ (k : Nat) (f : Flt), fs[k]? = some f → ∀ j, j < 2 → (fv fs)[k * 2 + j]? = ([.bool f.ex, f.sl] : List Value)[j]? := by
  induction fs with
  | nil => intro k s h; simp at h
  | cons t r ih =>
    intro k s h j hj
    have e : fv (t :: r) = [.bool t.ex, t.sl] ++ fv r := by simp [fv]
    rw [e]
    cases k with
    | zero =>
      simp at h; subst h
      rw [List.getElem?_append_left (by simp; omega)]
      simp
    | succ k =>
      have h' : r[k]? = some s := by simpa using h
      rw [List.getElem?_append_right (by simp; omega)]
      rw [show (k + 1) * 2 + j - ([.bool t.ex, t.sl] : List Value).length = k * 2 + j by simp; omega]
      exact ih k s h' j hj
theorem own_fls {w : World} {B n : Nat} {a : Option Addr} {c : Nat} {fs : List Flt} (h : w.ownsRow B 25 2 (.slice a n c) n (fv fs)) (hn : fs.length = n) (hf : ∀ f ∈ fs, FOk w f) : Fls w a fs := by
  by_cases h0 : n = 0
  · exact .inl (List.eq_nil_of_length_eq_zero (by omega))
  obtain ⟨g, rfl, _, _, hc⟩ := own_at h (by omega)
  refine .inr ⟨g, 0, rfl, fun k f hk => ⟨⟨?_, ?_⟩, hf f (List.mem_of_getElem? hk)⟩⟩
  · exact hc (0 + k * 2) _ (by rw [Nat.zero_add]; exact fv_at fs k f hk 0 (by omega))
  · exact hc (0 + k * 2 + 1) _ (by rw [Nat.zero_add]; exact fv_at fs k f hk 1 (by omega))
/-- Few sockets, of few sources. -/
def FewS (ss : List Sk) : Prop := ss.length ≤ 400 ∧ ∀ s ∈ ss, s.f.srcs.length ≤ 400
theorem ofG_few {g : Int} {ss : List Sk} (h : FewS ss) : FewF (ofG g ss) := by
  constructor
  · have := List.length_filter_le (fun s : Sk => s.g == g) ss
    unfold ofG; rw [List.length_map]; have := h.1; omega
  · intro f hf
    obtain ⟨s, hs, rfl⟩ := List.mem_map.1 hf
    exact h.2 s (List.mem_filter.1 hs).1
theorem ofG_len (g : Int) (ss : List Sk) : (ofG g ss).length ≤ ss.length := by unfold ofG; rw [List.length_map]; exact List.length_filter_le _ _
theorem FewS.take {ss : List Sk} (h : FewS ss) (k : Nat) : FewS (ss.take k) := ⟨by have := List.length_take_le' k ss; have := h.1; omega, fun s hs => h.2 s (List.mem_of_mem_take hs)⟩
theorem hIsSome (ex : Bool) (a : Option Addr) (n c : Nat) (w : World) :
    Calls Try.prog 57 #[.agg #[.bool ex, .slice a n c]] w fun e w' => e = .returned (.bool (ex || decide (0 < n))) ∧ Below w.heap.size w w' := by
  have h1 : decide ((0 : Int) < (n : Int)) = decide (0 < n) := decide_eq_decide.2 (by omega)
  have H1 := Lib.hid h1
  clear h1
  cases ex
  · go_enter Try.func57, Try.ntmps57
    go_wp2
    go_ret
    exact ⟨by rw [Bool.false_or, ← H1.out]; simp, bel1 w _⟩
  · go_enter Try.func57, Try.ntmps57
    go_wp2
    go_ret
    exact ⟨rfl, bel1 w _⟩
set_option maxRecDepth 100000 in
set_option maxHeartbeats 4000000 in
theorem hWants (a : Option Addr) (n c : Nat) (ss : List Sk) (g : Int) (w : World) (hx : ss.length = n) (hfew : FewS ss) (hH : Sks w a ss) :
    Calls Try.prog 32 #[.agg #[.slice a n c], .int .u32 g] w fun e w' => OutF w e w' (wants g ss) := by
  obtain ⟨i0, hi, hz0, hz1, hz2⟩ := info_parts infoF
  have HX := Lib.hid hx
  have HH := Lib.hid hH
  have HW := Lib.hid hfew
  have hn4 : n ≤ 400 := by rw [← hx]; exact hfew.1
  clear hx hH hfew
  go_enter Try.func32, Try.ntmps32
  go_wp2
  have hbN := bel1 (w.alloc (.cells #[.slice a n c] 36)) (.cells #[.bool false, .slice none 0 0] 25)
  have hR0 := Go.Deep.blk_alloc_new (w.alloc (.cells #[.slice a n c] 36)) (.cells #[.bool false, .slice none 0 0] 25)
  have hb0 := bel1 w (.cells #[.slice a n c] 36)
  have hs0 : (w.alloc (.cells #[.slice a n c] 36)).heap.size = w.heap.size + 1 := World.size_alloc _ _
  rw [hs0] at hbN hR0
  have HB0 := Lib.hid hb0
  have HBN := Lib.hid hbN
  have HR0 := Lib.hid hR0
  generalize w.alloc (.cells #[.slice a n c] 36) = w1 at *
  generalize w1.alloc (.cells #[.bool false, .slice none 0 0] 25) = w2 at *
  clear hb0 hbN hR0
  go_loopw [5, 11] (fun v5 v11 wr => ∃ (k : Nat) (a5 : Option Addr) (c5 : Nat), v5 = .slice a5 (ofG g (ss.take k)).length c5 ∧ v11 = .int .i64 (k : Int) ∧ k ≤ n ∧ wr.ownsRow (w.heap.size + 2) 25 2 (.slice a5 (ofG g (ss.take k)).length c5) (ofG g (ss.take k)).length (fv (ofG g (ss.take k))) ∧
    Below (w.heap.size + 1) w1 wr ∧ wr.heap[w.heap.size + 1]? = some (.cells #[.bool false, .slice none 0 0] 25 (0, 0))) (fun _ v _ => n - (intOf v).toNat)
  case atStart => exact ⟨0, none, 0, by simp [ofG], rfl, by omega, by simpa [ofG, fv] using World.ownsRow_nil _ _ _ _, HBN.out, HR0.out⟩
  case round =>
    obtain ⟨k, a5, c5, rfl, rfl, hk, ho, hB, hR⟩ := hrel
    have HO := Lib.hid ho
    have HB := Lib.hid hB
    have HR := Lib.hid hR
    have hNs : w.heap.size + 1 < wr.heap.size := (Array.getElem?_eq_some_iff.1 hR).1
    have hol : (ofG g (ss.take k)).length ≤ 400 := (ofG_few (HW.out.take k)).1
    have HBW := Lib.hid (HB0.out.trans (HB.out.mono (by omega)))
    clear ho hB hR
    by_cases hlt : k < n
    · obtain ⟨b, off, rfl, hc⟩ := HH.out.at (k := k) (by rw [HX.out]; exact hlt)
      obtain ⟨⟨id, gr, ⟨ex, srcs, fa, fc⟩⟩, hfk⟩ : ∃ s, ss[k]? = some s := ⟨_, List.getElem?_eq_getElem (by rw [HX.out]; exact hlt)⟩
      obtain ⟨⟨d0, d1, d2, d3⟩, hfo, -⟩ := (hc k _ hfk).below HBW.out
      simp only [Flt.sl] at d0 d1 d2 d3 hfo
      have HFK := Lib.hid hfk
      have hkz : (k : Int) < (n : Int) := by omega
      clear hc hfk hfo
      by_cases hg : gr = g
      · have hg1 : (gr == g) = true := by simpa using hg
        have HG := Lib.hid hg1
        have hn1 := news_new (wr.alloc (.cells #[.int .i64 id, .int .u32 gr, .bool ex, .slice fa srcs.length fc] 38)) [.bool ex, .slice fa srcs.length fc] 25
        rw [World.size_alloc] at hn1
        have HN1 := Lib.hid hn1
        clear hn1 hg
        go_wp2_with ((refine wpList_app_cell rfl 22 25 i0 _ 2 32 Try.underlying22 hi hz0 hz1 hz2 rfl (by decide) (by omega) (.tmp 19) (.tmp 22) rfl (w.heap.size + 2) _ (ofG g (ss.take k)).length (fv (ofG g (ss.take k))) rfl ((HO.out.alloc _).alloc _) ⟨wr.heap.size + 1, 0, none⟩ 1 [.bool ex, .slice fa srcs.length fc] rfl rfl HN1.out (by simp [Value.oneCell']) (by omega) (by simp; omega) ?_; intro a' cap' w' hown hg))
        go_roundw
        case rel =>
          have e : ofG g (ss.take (k + 1)) = ofG g (ss.take k) ++ [⟨ex, srcs, fa, fc⟩] := by rw [takeS HFK.out]; exact ofG_yes HG.out
          refine ⟨k + 1, a', cap', by rw [e, List.length_append]; rfl, by go_num, by omega, ?_, HB.out.trans ((((Below.refl _ wr).alloc (by omega) _).alloc (by simp; omega) _).trans ((grown_below ((HO.out.alloc _).alloc _) hg.out (by simp; omega)).mono (by omega))), ?_⟩
          · rw [e, List.length_append, fv_snoc]; exact hown.out
          · exact ((grown_below ((HO.out.alloc _).alloc _) hg.out (by simp; omega)).block (w.heap.size + 1) (by omega)).trans (blk_alloc (blk_alloc HR.out _) _)
        case measure => simp [intOf]; omega
      · have hg1 : (gr == g) = false := by simpa using hg
        have HG := Lib.hid hg1
        clear hg
        go_wp2
        go_roundw
        case rel =>
          have e : ofG g (ss.take (k + 1)) = ofG g (ss.take k) := by rw [takeS HFK.out]; exact ofG_no HG.out
          refine ⟨k + 1, a5, c5, by rw [e], by go_num, by omega, ?_, HB.out.alloc (by omega) _, blk_alloc HR.out _⟩
          rw [e]; exact HO.out.alloc _
        case measure => simp [intOf]; omega
    · obtain rfl : k = n := by omega
      have htk : ss.take k = ss := List.take_of_length_le (by rw [HX.out]; exact Nat.le_refl _)
      have HO' := HO.out
      rw [htk] at HO' hol ⊢
      have HO2 := Lib.hid HO'
      clear HO HO' htk
      have hfl := own_fls HO2.out rfl (fun f hf => by
        obtain ⟨s, hs, rfl⟩ := List.mem_map.1 hf
        exact ((HH.out.mem (List.mem_filter.1 hs).1).1.below HBW.out))
      have HFL := Lib.hid hfl
      clear hfl
      go_wp2_with fail
      refine (sFilter a5 _ c5 (ofG g ss) _ rfl (ofG_few HW.out) HFL.out).mono ?_
      rintro e w6 ⟨⟨a6, c6, rfl, hA6, hf6⟩, hB6⟩
      have HF6 := Lib.hid hf6
      obtain ⟨⟨⟨r0, r1⟩, q0, q1⟩, hl, hA', hb'⟩ := fin_filter ((hB6.block _ hNs).trans HR.out) (HB.out.trans (hB6.mono (by omega))) hA6 (flt (ofG g ss)).1 c6
      have HL := Lib.hid hl
      have HA' := Lib.hid hA'
      have HB' := Lib.hid (HB0.out.trans (hb'.mono (by omega)))
      clear hl hA' hb' hA6 hf6 hB6
      go_wp2_with fail
      refine ret_cell1 (p := 4) rfl rfl rfl HL.out ?_
      exact ⟨⟨a6, c6, rfl, HA'.out, HF6.out⟩, HB'.out⟩
set_option maxRecDepth 100000 in
set_option maxHeartbeats 4000000 in
theorem hGroups (a : Option Addr) (n c : Nat) (ss : List Sk) (w : World) (hx : ss.length = n) (hfew : FewS ss) (hH : Sks w a ss) :
    Calls Try.prog 34 #[.agg #[.slice a n c]] w fun e w' => Out w e w' (mk (grp ss)) := by
  have HX := Lib.hid hx
  have HH := Lib.hid hH
  have HW := Lib.hid hfew
  have hn4 : n ≤ 400 := by rw [← hx]; exact hfew.1
  have hgl : ∀ k, (grp (ss.take k)).length ≤ 400 := fun k => by
    have h1 := List.length_filter_le (fun s : Sk => some' s.f) (ss.take k)
    have h2 := (hfew.take k).1
    unfold grp; rw [List.length_map]; omega
  have HGL := Lib.hid hgl
  clear hx hH hfew hgl
  go_enter Try.func34, Try.ntmps34
  go_wp2
  have HB0 := Lib.hid (bel1 w (.cells #[.slice a n c] 36))
  generalize w.alloc (.cells #[.slice a n c] 36) = w1 at *
  go_loopw [3, 9] (fun v3 v9 wr => ∃ (k : Nat) (a3 : Option Addr) (c3 : Nat), v3 = .slice a3 (grp (ss.take k)).length c3 ∧ v9 = .int .i64 (k : Int) ∧ k ≤ n ∧ wr.ownsRow w.heap.size 27 1 (.slice a3 (grp (ss.take k)).length c3) (grp (ss.take k)).length (va (grp (ss.take k))) ∧
    Below w.heap.size w wr) (fun _ v _ => n - (intOf v).toNat)
  case atStart => exact ⟨0, none, 0, by simp [grp], rfl, by omega, by simpa [grp, va] using World.ownsRow_nil _ _ _ _, HB0.out⟩
  case round =>
    obtain ⟨k, a3, c3, rfl, rfl, hk, ho, hB⟩ := hrel
    have HO := Lib.hid ho
    have HB := Lib.hid hB
    have hol := HGL.out k
    clear ho hB
    by_cases hlt : k < n
    · obtain ⟨b, off, rfl, hc⟩ := HH.out.at (k := k) (by rw [HX.out]; exact hlt)
      obtain ⟨⟨id, gr, ⟨ex, srcs, fa, fc⟩⟩, hfk⟩ : ∃ s, ss[k]? = some s := ⟨_, List.getElem?_eq_getElem (by rw [HX.out]; exact hlt)⟩
      obtain ⟨⟨d0, d1, d2, d3⟩, hfo, hgr⟩ := (hc k _ hfk).below HB.out
      simp only [Flt.sl] at d0 d1 d2 d3 hfo hgr
      have HFK := Lib.hid hfk
      have HGR := Lib.hid hgr
      have hkz : (k : Int) < (n : Int) := by omega
      clear hc hfk hfo hgr
      go_wp2_with fail
      have hb1 := bel1 wr (.cells #[.int .i64 id, .int .u32 gr, .bool ex, .slice fa srcs.length fc] 38)
      have HO1 := Lib.hid (HO.out.alloc (.cells #[.int .i64 id, .int .u32 gr, .bool ex, .slice fa srcs.length fc] 38))
      have hS := (sock_new wr (.int .i64 id) (.int .u32 gr) (.bool ex) (.slice fa srcs.length fc)).2.1
      have HB1 := Lib.hid (HB.out.trans (hb1.mono HB.out.size))
      clear hb1 HB HO d0 d1 d2 d3
      generalize wr.alloc (.cells #[.int .i64 id, .int .u32 gr, .bool ex, .slice fa srcs.length fc] 38) = w3 at *
      refine (hIsSome ex fa srcs.length fc w3).mono ?_
      rintro e w4 ⟨rfl, hb4⟩
      have hS4 := (hb4.cell (cell_lt hS)).trans hS
      have HO4 := Lib.hid (own_grown HO1.out hb4 (Nat.le_refl _))
      have HB4 := Lib.hid (HB1.out.trans (hb4.mono HB1.out.size))
      clear hS hb4 HO1 HB1
      obtain ⟨bs, hbs⟩ : ∃ bs, (ex || decide (0 < srcs.length)) = bs := ⟨_, rfl⟩
      rw [hbs]
      have HBS : Hid (some' ⟨ex, srcs, fa, fc⟩ = bs) := Lib.hid hbs
      clear hbs
      cases bs
      · go_wp2_with fail
        go_roundw
        case rel =>
          have e : grp (ss.take (k + 1)) = grp (ss.take k) := by rw [takeS HFK.out]; exact grp_no HBS.out
          exact ⟨k + 1, a3, c3, by rw [e], by go_num, by omega, by rw [e]; exact HO4.out, HB4.out⟩
        case measure => simp [intOf]; omega
      · have hN := as_new w4 [gr] (isA_iff.2 (by simpa using HGR.out))
        have HN := Lib.hid hN
        clear hN
        go_wp2_with ((refine wpList_app_as rfl (.tmp 16) (.tmp 19) rfl w.heap.size _ (grp (ss.take k)).length (grp (ss.take k)) rfl (HO4.out.alloc _) rfl (some ⟨w4.heap.size, 0, none⟩) 1 1 [gr] rfl rfl HN.out (by intro e; cases e) (by omega) (by have := HB4.out.size; simp; omega) ?_; intro a' cap' w' hown hg))
        go_roundw
        case rel =>
          have e : grp (ss.take (k + 1)) = grp (ss.take k) ++ [gr] := by rw [takeS HFK.out]; exact grp_yes HBS.out
          refine ⟨k + 1, a', cap', by rw [e, List.length_append]; rfl, by go_num, by omega, by rw [e, List.length_append]; exact hown.out, HB4.out.trans (((Below.refl _ w4).alloc HB4.out.size _).trans (grown_below (HO4.out.alloc _) hg.out (by have := HB4.out.size; simp; omega)))⟩
        case measure => simp [intOf]; omega
    · obtain rfl : k = n := by omega
      have htk : ss.take k = ss := List.take_of_length_le (by rw [HX.out]; exact Nat.le_refl _)
      have HO' := HO.out
      rw [htk] at HO' hol ⊢
      clear HO htk
      obtain ⟨a', c', e', hfl⟩ := own_sl HO'
      cases e'
      have hA := (AsO.of rfl HO').as (isA_iff.2 fun x hx => by
        obtain ⟨s, hs, rfl⟩ := List.mem_map.1 hx
        exact (HH.out.mem (List.mem_filter.1 hs).1).2)
      have HA := Lib.hid hA
      have HFL := Lib.hid hfl
      clear hA hfl HO'
      go_wp2_with fail
      refine (sMake a3 _ c3 (grp ss) _ rfl (by omega) HA.out HFL.out).mono ?_
      rintro e w6 ⟨⟨a6, c6, rfl, hA6, hf6⟩, hB6⟩
      have HA6 := Lib.hid hA6
      have HF6 := Lib.hid hf6
      have HB6 := Lib.hid (HB.out.trans (hB6.mono HB.out.size))
      clear hA6 hf6 hB6
      go_wp2_with fail
      go_ret
      exact ⟨⟨a6, c6, rfl, HA6.out, HF6.out⟩, HB6.out⟩
end Go.Proofs.Ytmcbbccbonadjaa
