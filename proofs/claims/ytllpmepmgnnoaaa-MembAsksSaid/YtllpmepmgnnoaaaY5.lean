/- Package set's those: what stays of two rows gone through at once. -/
import Derived.Test.YtllpmepmgnnoaaaY0
import Derived.Test.YtllpmepmgnnoaaaY1
import Derived.Test.YtllpmepmgnnoaaaY2
import Derived.Test.YtllpmepmgnnoaaaY3
import Derived.Test.YtllpmepmgnnoaaaY4
import Derived.Maps.AppendAt
namespace Go.Proofs.Ytllpmepmgnnoaaa
set_option linter.unusedVariables false
open Go.RowKit Go.Shelf
attribute [local go_sem] Oper.semAt_some

/-- Two rows gone through, to the end. -/
theorem thr_stops (n : Nat) (hn : 1 ≤ n) (Ba Bb : Nat) (a b : Option Addr) (la lb ca cb : Nat) (xs ys : List Int) (hx : xs.length = la) (hy : ys.length = lb) (hla : la ≤ 1000000) (hlb : lb ≤ 1000000)
    (w0 w : World) (hb0 : Below w0.heap.size w0 w) (hBa : Ba < w.heap.size) (hBb : Bb < w.heap.size) (hA : w.cell? ⟨Ba, 0, none⟩ = some (.slice a la ca)) (hB : w.cell? ⟨Bb, 0, none⟩ = some (.slice b lb cb)) (h1 : As w0 a xs) (h2 : As w0 b ys) :
    SeqStopsK Fence.wide n Try.prog 120 #[.pointer (some ⟨Ba, 0, none⟩), .pointer (some ⟨Bb, 0, none⟩)] (fun x : Z3 => #[Value.int .u32 x.1, .agg #[.bool x.2.1, .bool x.2.2]]) (Kp2 w0.heap.size Ba Bb) (fun zs => zs = thr xs ys) (fun _ => True) (thr xs ys).length w := fun l J Jx W hW hJ _ hY h0 => by
  have k : ∀ {c : Option Addr} {zs : List Int} {m : Nat}, zs.length = m → As w0 c zs → zs = [] ∨ ∃ g off, c = some ⟨g, off, none⟩ ∧ g < w0.heap.size ∧ ∀ k, k < m → W.cell? ⟨g, off + k, none⟩ = some (.int .u32 (zs.getD k 0)) := by
    intro c zs m hm h
    by_cases hz : zs = []
    · exact .inl hz
    · rcases h.1 with e | ⟨g, off, e, hc⟩
      · exact .inl e
      · have hpos : 0 < zs.length := List.length_pos_iff.2 hz
        have hg : g < w0.heap.size := cell_lt (hc 0 hpos)
        exact .inr ⟨g, off, e, hg, fun k hk => ((hb0.trans (hW.mono hb0.size)).cell (p := ⟨g, off + k, none⟩) hg).trans (hc k (by omega))⟩
  exact thr1_in n hn l Ba Bb w0.heap.size la lb ca cb a b xs ys hx hy hla hlb J Jx W hJ (Nat.le_trans hb0.size hW.size) hY ((hW.cell (p := ⟨Ba, 0, none⟩) hBa).trans hA) ((hW.cell (p := ⟨Bb, 0, none⟩) hBb).trans hB) (k hx h1) (k hy h2) h0

theorem Boxed.thru {W w1 : World} {n₀ B B' : Nat} {t e : TypeId} {size k : Nat} {u v v' : Value} {xs : List Value} {tmp : Obj} (h : Boxed W B t u) (hte : t ≠ e) (hrow : W.ownsRow n₀ e size v k xs) (hgrow : (W.alloc tmp).grownBy w1 v.ownBlock) (hne : B ≠ B') : Boxed (w1.setCell ⟨B', 0, none⟩ v') B t u :=
  Boxed.other (Boxed.kept (Boxed.alloc h tmp) hgrow (Boxed.not_row h hte hrow)) hne v'
theorem sThrough (a b : Option Addr) (la lb ca cb : Nat) (w : World) :
    Calls Try.prog 100 #[.slice a la ca, .slice b lb cb] w fun e w' => e = .returned (.func (.func 120) #[] #[.pointer (some ⟨w.heap.size, 0, none⟩), .pointer (some ⟨w.heap.size + 1, 0, none⟩)]) ∧
      w' = (w.alloc (.cells #[.slice a la ca] 27)).alloc (.cells #[.slice b lb cb] 27) := by
  go_enter Try.func100, Try.ntmps100
  go_wp2
  go_ret
  exact ⟨by simp, rfl⟩

/-- What stays of what has come. -/
def stays (p : Bool → Bool → Bool) (l : List Z3) : List Int := (l.filter fun t => p t.2.1 t.2.2).map (·.1)
theorem stays_thr (p : Bool → Bool → Bool) (a b : List Int) : stays p (thr a b) = those p a b := rfl
theorem stays_yes {p : Bool → Bool → Bool} {l : List Z3} {x : Z3} (h : p x.2.1 x.2.2 = true) : stays p (l ++ [x]) = stays p l ++ [x.1] := by
  unfold stays
  rw [List.filter_append, List.map_append]
  simp [h]
theorem stays_no {p : Bool → Bool → Bool} {l : List Z3} {x : Z3} (h : p x.2.1 x.2.2 = false) : stays p (l ++ [x]) = stays p l := by
  unfold stays
  rw [List.filter_append, List.map_append]
  simp [h]
theorem stays_len (p : Bool → Bool → Bool) (l : List Z3) : (stays p l).length ≤ l.length := by
  unfold stays
  rw [List.length_map]
  exact List.length_filter_le _ _

theorem stI (p q : Bool) (w : World) : Calls Try.prog 89 #[.agg #[.bool p, .bool q]] w fun e w' => e = .returned (.bool (p && q)) ∧ w' = w.alloc (.cells #[.bool p, .bool q] 127) := by
  cases p <;> cases q <;>
  · go_enter Try.func89, Try.ntmps89
    go_wp2
    go_ret
    exact ⟨rfl, rfl⟩
set_option maxRecDepth 100000 in
set_option maxHeartbeats 4000000 in
theorem thoseI_in (a b : Option Addr) (la lb ca cb : Nat) (xs ys : List Int) (w : World) (hx : xs.length = la) (hy : ys.length = lb) (hla : la ≤ 400000) (hlb : lb ≤ 400000) (h1 : As w a xs) (h2 : As w b ys) :
    CallsIn Fence.wide 5 Try.prog 88 #[.slice a la ca, .slice b lb cb, .func (.func 89) #[] #[]] w fun e w' =>
      ∃ v, e = .returned v ∧ w'.ownsRow w.heap.size 26 1 v (those (fun p q => p && q) xs ys).length (va (those (fun p q => p && q) xs ys)) ∧ Below w.heap.size w w' := by
  have hth := thr_len xs ys
  rw [hx, hy] at hth
  have HX := Lib.hid hx
  have HY := Lib.hid hy
  have H1 := Lib.hid h1
  have H2 := Lib.hid h2
  clear hx hy h1 h2
  refine callsIn_of_wp_marks Try.func88 rfl trivial ?_ rfl
  simp only [Try.ntmps88, List.size_toArray, List.length_cons, List.length_nil, Nat.reduceAdd, Nat.reduceSub, Array.replicate_succ, Array.replicate_zero, List.push_toArray, List.append_toArray, List.nil_append, List.cons_append]
  gi_wp2_with (refine ⟨trivial, ?_⟩; gi_at_call 100; refine (callsIn_wide.2 (sThrough _ _ _ _ _ _ _)).mono ?_; rintro e w' ⟨rfl, rfl⟩)
  have bF := (((Boxed.new w 128 (.func (.func 89) #[] #[])).alloc (.cells #[.slice none 0 0] 27)).alloc (.cells #[.slice a la ca] 27)).alloc (.cells #[.slice b lb cb] 27)
  have bL := ((Boxed.new (w.alloc (.cells #[.func (.func 89) #[] #[]] 128)) 27 (.slice none 0 0)).alloc (.cells #[.slice a la ca] 27)).alloc (.cells #[.slice b lb cb] 27)
  have bA := (Boxed.new ((w.alloc (.cells #[.func (.func 89) #[] #[]] 128)).alloc (.cells #[.slice none 0 0] 27)) 27 (.slice a la ca)).alloc (.cells #[.slice b lb cb] 27)
  have bB := Boxed.new (((w.alloc (.cells #[.func (.func 89) #[] #[]] 128)).alloc (.cells #[.slice none 0 0] 27)).alloc (.cells #[.slice a la ca] 27)) 27 (.slice b lb cb)
  simp only [World.size_alloc] at bF bL bA bB
  have hB0 : Below w.heap.size w ((((w.alloc (.cells #[.func (.func 89) #[] #[]] 128)).alloc (.cells #[.slice none 0 0] 27)).alloc (.cells #[.slice a la ca] 27)).alloc (.cells #[.slice b lb cb] 27)) := ((((Below.refl _ w).alloc (Nat.le_refl _) _).alloc (by simp) _).alloc (by simp; omega) _).alloc (by simp; omega) _
  have hsz : ((((w.alloc (.cells #[.func (.func 89) #[] #[]] 128)).alloc (.cells #[.slice none 0 0] 27)).alloc (.cells #[.slice a la ca] 27)).alloc (.cells #[.slice b lb cb] 27)).heap.size = w.heap.size + 4 := by simp
  obtain ⟨W0, hW0⟩ : ∃ W0, (((w.alloc (.cells #[.func (.func 89) #[] #[]] 128)).alloc (.cells #[.slice none 0 0] 27)).alloc (.cells #[.slice a la ca] 27)).alloc (.cells #[.slice b lb cb] 27) = W0 := ⟨_, rfl⟩
  rw [hW0] at bF bL bA bB hB0 hsz ⊢
  clear hW0
  obtain ⟨i0, hi, hz0, hz1, hz2⟩ := info_parts infoA
  refine wpIn_rangeFunc_ownH rfl (by omega) (gf := 120) (lb := #[.pointer (some ⟨w.heap.size + 1 + 1, 0, none⟩), .pointer (some ⟨w.heap.size + 1 + 1 + 1, 0, none⟩)]) rfl trivial (enters_of Try.func120 (by kernel_rfl) rfl)
    (thr_stops _ (by omega) (w.heap.size + 1 + 1) (w.heap.size + 1 + 1 + 1) a b la lb ca cb xs ys HX.out HY.out (by omega) (by omega) w W0 hB0 (by omega) (by omega) bA.cell bB.cell H1.out H2.out) kp2_t (kp2_b (by omega)) (Below.refl _ _) (fun _ => rfl)
    (fun pre W => (∃ v, Boxed W (w.heap.size + 1) 27 v ∧ W.ownsRow w.heap.size 26 1 v (stays (fun p q => p && q) pre).length (va (stays (fun p q => p && q) pre)) ∧ True) ∧
      ((Boxed W w.heap.size 128 (.func (.func 89) #[] #[]) ∧ Boxed W (w.heap.size + 1 + 1) 27 (.slice a la ca)) ∧ Boxed W (w.heap.size + 1 + 1 + 1) 27 (.slice b lb cb)) ∧ Below w.heap.size w W)
    (fun _ _ _ => False)
    (OwnFrom.and (Own.from (holdsRow_own w.heap.size (w.heap.size + 1) 27 26 1 (fun pre => (stays (fun p q => p && q) pre).length) (fun pre => va (stays (fun p q => p && q) pre)) (fun _ _ => True)) _)
      (OwnFrom.and (OwnFrom.and (OwnFrom.and (Own.from (boxed_own _ _ (fun _ => _)) _) (Own.from (boxed_own _ _ (fun _ => _)) _)) (Own.from (boxed_own _ _ (fun _ => _)) _)) (ownFrom_below (Nat.le_refl _) (by omega))))
    (fun _ _ _ _ _ hs _ _ => hs)
    ⟨⟨_, bL, World.ownsRow_nil _ _ _ _, trivial⟩, ⟨⟨bF, bA⟩, bB⟩, hB0⟩
    (fun x a' W => ∃ Bx, w.heap.size + 3 < Bx ∧ W.heap[Bx]? = some (.cells #[.bool x.2.1, .bool x.2.2] 127 (0, 0)) ∧ a' = { tmps := #[.slice a la ca, .slice b lb cb, .func (.func 89) #[] #[], undef, undef, .pointer (some ⟨w.heap.size, 0, none⟩), .slice none 0 0, .pointer (some ⟨w.heap.size + 1, 0, none⟩), .int .u32 x.1, .pointer (some ⟨Bx, 0, none⟩), .slice a la ca, .slice b lb cb, .func (.func 120) #[] #[.pointer (some ⟨w.heap.size + 1 + 1, 0, none⟩), .pointer (some ⟨w.heap.size + 1 + 1 + 1, 0, none⟩)], .int .u32 x.1, .agg #[.bool x.2.1, .bool x.2.2], undef, undef, undef, undef, undef, undef, undef, undef], defers := [] })
    ?hAx ?assign ?body ?done ?stop
  case hAx =>
    rintro x a' s X Y row ⟨Bx, h1, h2, h3⟩ hg hrow
    refine ⟨Bx, h1, (hg.block Bx (Array.getElem?_eq_some_iff.1 h2).1 fun e => ?_).trans h2, h3⟩
    obtain ⟨_, o, ho, hc⟩ := hrow Bx e.symm
    rw [h2] at ho; cases ho; cases hc
  case assign =>
    rintro l pre x W K ⟨⟨v, hv, hrow, _⟩, ⟨⟨bF, bA⟩, bB⟩, hB⟩ hK
    have hsW : w.heap.size + 4 ≤ W.heap.size := by
      have := bB.lt
      omega
    gi_wp2
    refine hK _ _ ((KeepsOthers.alloc _ _).from _) (kp2_below kp2_r hB.size (bel1 W _)) ⟨⟨v, hv.alloc _, hrow.alloc _, trivial⟩, ⟨⟨bF.alloc _, bA.alloc _⟩, bB.alloc _⟩, hB.alloc hB.size _⟩ ⟨W.heap.size, by omega, Go.Deep.blk_alloc_new _ _, rfl⟩
  case body =>
    rintro l pre x a' W hl ⟨r, hr⟩ ⟨⟨v, hv, hrow, _⟩, ⟨⟨bF, bA⟩, bB⟩, hB⟩ ⟨Bx, hBx, bX, rfl⟩ hlt
    obtain ⟨z, p, q⟩ := x
    obtain ⟨k0, k1, _, _, _⟩ := two_cells bX undef undef
    have hlen := stays_len (fun p q => p && q) pre
    have hsW : w.heap.size + 4 ≤ W.heap.size := by
      have := bB.lt
      omega
    have hFc := bF.cell
    have hv' := hv.alloc (.cells #[.bool p, .bool q] 127)
    have hrow' := hrow.alloc (.cells #[.bool p, .bool q] 127)
    have hLc := hv'.cell
    have HV := Lib.hid hv
    have HV' := Lib.hid hv'
    have HR := Lib.hid hrow
    have HR' := Lib.hid hrow'
    have BF := Lib.hid bF
    have BA := Lib.hid bA
    have BB := Lib.hid bB
    have HB := Lib.hid hB
    clear hv hv' hrow hrow' bF bA bB hB bX
    dsimp only
    cases p <;> cases q
    · gi_wp2_with (refine ⟨trivial, ?_⟩; gi_at_call 89; refine (CallsIn.inRound l (callsIn_wide.2 (stI _ _ _))).mono ?_; rintro e w' ⟨rfl, rfl⟩)
      refine ⟨(KeepsOthers.alloc _ _).from _, kp2_below kp2_r HB.out.size (bel1 W _), ⟨_, HV'.out, ?_, trivial⟩, ⟨⟨BF.out.alloc _, BA.out.alloc _⟩, BB.out.alloc _⟩, HB.out.alloc HB.out.size _⟩
      rw [stays_no rfl]
      exact HR'.out
    · gi_wp2_with (refine ⟨trivial, ?_⟩; gi_at_call 89; refine (CallsIn.inRound l (callsIn_wide.2 (stI _ _ _))).mono ?_; rintro e w' ⟨rfl, rfl⟩)
      refine ⟨(KeepsOthers.alloc _ _).from _, kp2_below kp2_r HB.out.size (bel1 W _), ⟨_, HV'.out, ?_, trivial⟩, ⟨⟨BF.out.alloc _, BA.out.alloc _⟩, BB.out.alloc _⟩, HB.out.alloc HB.out.size _⟩
      rw [stays_no rfl]
      exact HR'.out
    · gi_wp2_with (refine ⟨trivial, ?_⟩; gi_at_call 89; refine (CallsIn.inRound l (callsIn_wide.2 (stI _ _ _))).mono ?_; rintro e w' ⟨rfl, rfl⟩)
      refine ⟨(KeepsOthers.alloc _ _).from _, kp2_below kp2_r HB.out.size (bel1 W _), ⟨_, HV'.out, ?_, trivial⟩, ⟨⟨BF.out.alloc _, BA.out.alloc _⟩, BB.out.alloc _⟩, HB.out.alloc HB.out.size _⟩
      rw [stays_no rfl]
      exact HR'.out
    · have hn1 := news_new (W.alloc (.cells #[.bool true, .bool true] 127)) [.int .u32 z] 26
      rw [World.size_alloc] at hn1
      have HN1 := Lib.hid hn1
      clear hn1
      gi_wp2_with (first | (refine ⟨trivial, ?_⟩; gi_at_call 89; refine (CallsIn.inRound l (callsIn_wide.2 (stI _ _ _))).mono ?_; rintro e w' ⟨rfl, rfl⟩) | (gi_at_builtin; refine wpListIn_append_own _ rfl _ _ 27 rfl w.heap.size 26 i0 (.int .u32 0) 1 4 Try.underlying27 hi hz0 hz1 hz2 rfl (by decide) _ _ _ rfl (HR'.out.alloc _) ⟨W.heap.size + 1, 0, none⟩ 1 1 [.int .u32 z] rfl rfl HN1.out (one32 z) (by unfold maxLen; omega) (by omega) (by simp; omega) ?_; intro v' w1 hown' hgrow _; obtain ⟨g', cap', rfl⟩ := ownsRow_succ hown'; obtain ⟨hv1, hv2, hr2, hk2, hb2⟩ := HV'.out.appended (by decide) HR'.out (by simp; omega) (by omega) hown' hgrow; have hc1 := hv1.cell; have hf1 := hv1.frozen))
      have F3 := Boxed.thru (BF.out.alloc _) (by decide) HR'.out hgrow (B' := w.heap.size + 1) (by omega) (v' := .slice (some ⟨g', 0, none⟩) ((stays (fun p q => p && q) pre).length + 1) cap')
      have A3 := Boxed.thru (BA.out.alloc _) (by decide) HR'.out hgrow (B' := w.heap.size + 1) (by omega) (v' := .slice (some ⟨g', 0, none⟩) ((stays (fun p q => p && q) pre).length + 1) cap')
      have B3 := Boxed.thru (BB.out.alloc _) (by decide) HR'.out hgrow (B' := w.heap.size + 1) (by omega) (v' := .slice (some ⟨g', 0, none⟩) ((stays (fun p q => p && q) pre).length + 1) cap')
      have hbel := ((Below.refl w.heap.size W).alloc (o := .cells #[.bool true, .bool true] 127) HB.out.size).trans hb2
      refine ⟨((KeepsOthers.alloc _ _).trans hk2).from _, ⟨hbel, fun u e => ?_, fun u e => ?_⟩, ⟨_, hv2, ?_, trivial⟩, ⟨⟨F3, A3⟩, B3⟩, HB.out.trans hbel⟩
      · rw [BA.out.cell] at e; rw [A3.cell]; exact e
      · rw [BB.out.cell] at e; rw [B3.cell]; exact e
      · rw [stays_yes rfl, va_snoc, List.length_append]
        exact hr2
  case done =>
    rintro D zs W hD rfl ⟨⟨v, hv, hrow, _⟩, _, hB⟩ hK
    have hLc := hv.cell
    have HV := Lib.hid hv
    have HR := Lib.hid hrow
    have HB := Lib.hid hB
    clear hv hrow hB
    gi_wp2
    refine ⟨by simp, .inl ⟨_, _, rfl, run_takeDeferred hK, ?_⟩⟩
    exact ⟨_, results_tmp rfl _ _ _, v, rfl, ownsRow_putObj HR.out _ hK rfl, HB.out.trans (belowK_b (w := w) (Nat.le_refl _) W D _ _ (by omega) hK rfl rfl)⟩
  case stop =>
    rintro D c pre W _ _ h _
    exact h.elim

theorem stM (p q : Bool) (w : World) : Calls Try.prog 90 #[.agg #[.bool p, .bool q]] w fun e w' => e = .returned (.bool (p && !q)) ∧ w' = w.alloc (.cells #[.bool p, .bool q] 127) := by
  cases p <;> cases q <;>
  · go_enter Try.func90, Try.ntmps90
    go_wp2
    go_ret
    exact ⟨rfl, rfl⟩
set_option maxRecDepth 100000 in
set_option maxHeartbeats 4000000 in
theorem thoseM_in (a b : Option Addr) (la lb ca cb : Nat) (xs ys : List Int) (w : World) (hx : xs.length = la) (hy : ys.length = lb) (hla : la ≤ 400000) (hlb : lb ≤ 400000) (h1 : As w a xs) (h2 : As w b ys) :
    CallsIn Fence.wide 5 Try.prog 88 #[.slice a la ca, .slice b lb cb, .func (.func 90) #[] #[]] w fun e w' =>
      ∃ v, e = .returned v ∧ w'.ownsRow w.heap.size 26 1 v (those (fun p q => p && !q) xs ys).length (va (those (fun p q => p && !q) xs ys)) ∧ Below w.heap.size w w' := by
  have hth := thr_len xs ys
  rw [hx, hy] at hth
  have HX := Lib.hid hx
  have HY := Lib.hid hy
  have H1 := Lib.hid h1
  have H2 := Lib.hid h2
  clear hx hy h1 h2
  refine callsIn_of_wp_marks Try.func88 rfl trivial ?_ rfl
  simp only [Try.ntmps88, List.size_toArray, List.length_cons, List.length_nil, Nat.reduceAdd, Nat.reduceSub, Array.replicate_succ, Array.replicate_zero, List.push_toArray, List.append_toArray, List.nil_append, List.cons_append]
  gi_wp2_with (refine ⟨trivial, ?_⟩; gi_at_call 100; refine (callsIn_wide.2 (sThrough _ _ _ _ _ _ _)).mono ?_; rintro e w' ⟨rfl, rfl⟩)
  have bF := (((Boxed.new w 128 (.func (.func 90) #[] #[])).alloc (.cells #[.slice none 0 0] 27)).alloc (.cells #[.slice a la ca] 27)).alloc (.cells #[.slice b lb cb] 27)
  have bL := ((Boxed.new (w.alloc (.cells #[.func (.func 90) #[] #[]] 128)) 27 (.slice none 0 0)).alloc (.cells #[.slice a la ca] 27)).alloc (.cells #[.slice b lb cb] 27)
  have bA := (Boxed.new ((w.alloc (.cells #[.func (.func 90) #[] #[]] 128)).alloc (.cells #[.slice none 0 0] 27)) 27 (.slice a la ca)).alloc (.cells #[.slice b lb cb] 27)
  have bB := Boxed.new (((w.alloc (.cells #[.func (.func 90) #[] #[]] 128)).alloc (.cells #[.slice none 0 0] 27)).alloc (.cells #[.slice a la ca] 27)) 27 (.slice b lb cb)
  simp only [World.size_alloc] at bF bL bA bB
  have hB0 : Below w.heap.size w ((((w.alloc (.cells #[.func (.func 90) #[] #[]] 128)).alloc (.cells #[.slice none 0 0] 27)).alloc (.cells #[.slice a la ca] 27)).alloc (.cells #[.slice b lb cb] 27)) := ((((Below.refl _ w).alloc (Nat.le_refl _) _).alloc (by simp) _).alloc (by simp; omega) _).alloc (by simp; omega) _
  have hsz : ((((w.alloc (.cells #[.func (.func 90) #[] #[]] 128)).alloc (.cells #[.slice none 0 0] 27)).alloc (.cells #[.slice a la ca] 27)).alloc (.cells #[.slice b lb cb] 27)).heap.size = w.heap.size + 4 := by simp
  obtain ⟨W0, hW0⟩ : ∃ W0, (((w.alloc (.cells #[.func (.func 90) #[] #[]] 128)).alloc (.cells #[.slice none 0 0] 27)).alloc (.cells #[.slice a la ca] 27)).alloc (.cells #[.slice b lb cb] 27) = W0 := ⟨_, rfl⟩
  rw [hW0] at bF bL bA bB hB0 hsz ⊢
  clear hW0
  obtain ⟨i0, hi, hz0, hz1, hz2⟩ := info_parts infoA
  refine wpIn_rangeFunc_ownH rfl (by omega) (gf := 120) (lb := #[.pointer (some ⟨w.heap.size + 1 + 1, 0, none⟩), .pointer (some ⟨w.heap.size + 1 + 1 + 1, 0, none⟩)]) rfl trivial (enters_of Try.func120 (by kernel_rfl) rfl)
    (thr_stops _ (by omega) (w.heap.size + 1 + 1) (w.heap.size + 1 + 1 + 1) a b la lb ca cb xs ys HX.out HY.out (by omega) (by omega) w W0 hB0 (by omega) (by omega) bA.cell bB.cell H1.out H2.out) kp2_t (kp2_b (by omega)) (Below.refl _ _) (fun _ => rfl)
    (fun pre W => (∃ v, Boxed W (w.heap.size + 1) 27 v ∧ W.ownsRow w.heap.size 26 1 v (stays (fun p q => p && !q) pre).length (va (stays (fun p q => p && !q) pre)) ∧ True) ∧
      ((Boxed W w.heap.size 128 (.func (.func 90) #[] #[]) ∧ Boxed W (w.heap.size + 1 + 1) 27 (.slice a la ca)) ∧ Boxed W (w.heap.size + 1 + 1 + 1) 27 (.slice b lb cb)) ∧ Below w.heap.size w W)
    (fun _ _ _ => False)
    (OwnFrom.and (Own.from (holdsRow_own w.heap.size (w.heap.size + 1) 27 26 1 (fun pre => (stays (fun p q => p && !q) pre).length) (fun pre => va (stays (fun p q => p && !q) pre)) (fun _ _ => True)) _)
      (OwnFrom.and (OwnFrom.and (OwnFrom.and (Own.from (boxed_own _ _ (fun _ => _)) _) (Own.from (boxed_own _ _ (fun _ => _)) _)) (Own.from (boxed_own _ _ (fun _ => _)) _)) (ownFrom_below (Nat.le_refl _) (by omega))))
    (fun _ _ _ _ _ hs _ _ => hs)
    ⟨⟨_, bL, World.ownsRow_nil _ _ _ _, trivial⟩, ⟨⟨bF, bA⟩, bB⟩, hB0⟩
    (fun x a' W => ∃ Bx, w.heap.size + 3 < Bx ∧ W.heap[Bx]? = some (.cells #[.bool x.2.1, .bool x.2.2] 127 (0, 0)) ∧ a' = { tmps := #[.slice a la ca, .slice b lb cb, .func (.func 90) #[] #[], undef, undef, .pointer (some ⟨w.heap.size, 0, none⟩), .slice none 0 0, .pointer (some ⟨w.heap.size + 1, 0, none⟩), .int .u32 x.1, .pointer (some ⟨Bx, 0, none⟩), .slice a la ca, .slice b lb cb, .func (.func 120) #[] #[.pointer (some ⟨w.heap.size + 1 + 1, 0, none⟩), .pointer (some ⟨w.heap.size + 1 + 1 + 1, 0, none⟩)], .int .u32 x.1, .agg #[.bool x.2.1, .bool x.2.2], undef, undef, undef, undef, undef, undef, undef, undef], defers := [] })
    ?hAx ?assign ?body ?done ?stop
  case hAx =>
    rintro x a' s X Y row ⟨Bx, h1, h2, h3⟩ hg hrow
    refine ⟨Bx, h1, (hg.block Bx (Array.getElem?_eq_some_iff.1 h2).1 fun e => ?_).trans h2, h3⟩
    obtain ⟨_, o, ho, hc⟩ := hrow Bx e.symm
    rw [h2] at ho; cases ho; cases hc
  case assign =>
    rintro l pre x W K ⟨⟨v, hv, hrow, _⟩, ⟨⟨bF, bA⟩, bB⟩, hB⟩ hK
    have hsW : w.heap.size + 4 ≤ W.heap.size := by
      have := bB.lt
      omega
    gi_wp2
    refine hK _ _ ((KeepsOthers.alloc _ _).from _) (kp2_below kp2_r hB.size (bel1 W _)) ⟨⟨v, hv.alloc _, hrow.alloc _, trivial⟩, ⟨⟨bF.alloc _, bA.alloc _⟩, bB.alloc _⟩, hB.alloc hB.size _⟩ ⟨W.heap.size, by omega, Go.Deep.blk_alloc_new _ _, rfl⟩
  case body =>
    rintro l pre x a' W hl ⟨r, hr⟩ ⟨⟨v, hv, hrow, _⟩, ⟨⟨bF, bA⟩, bB⟩, hB⟩ ⟨Bx, hBx, bX, rfl⟩ hlt
    obtain ⟨z, p, q⟩ := x
    obtain ⟨k0, k1, _, _, _⟩ := two_cells bX undef undef
    have hlen := stays_len (fun p q => p && !q) pre
    have hsW : w.heap.size + 4 ≤ W.heap.size := by
      have := bB.lt
      omega
    have hFc := bF.cell
    have hv' := hv.alloc (.cells #[.bool p, .bool q] 127)
    have hrow' := hrow.alloc (.cells #[.bool p, .bool q] 127)
    have hLc := hv'.cell
    have HV := Lib.hid hv
    have HV' := Lib.hid hv'
    have HR := Lib.hid hrow
    have HR' := Lib.hid hrow'
    have BF := Lib.hid bF
    have BA := Lib.hid bA
    have BB := Lib.hid bB
    have HB := Lib.hid hB
    clear hv hv' hrow hrow' bF bA bB hB bX
    dsimp only
    cases p <;> cases q
    · gi_wp2_with (refine ⟨trivial, ?_⟩; gi_at_call 90; refine (CallsIn.inRound l (callsIn_wide.2 (stM _ _ _))).mono ?_; rintro e w' ⟨rfl, rfl⟩)
      refine ⟨(KeepsOthers.alloc _ _).from _, kp2_below kp2_r HB.out.size (bel1 W _), ⟨_, HV'.out, ?_, trivial⟩, ⟨⟨BF.out.alloc _, BA.out.alloc _⟩, BB.out.alloc _⟩, HB.out.alloc HB.out.size _⟩
      rw [stays_no rfl]
      exact HR'.out
    · gi_wp2_with (refine ⟨trivial, ?_⟩; gi_at_call 90; refine (CallsIn.inRound l (callsIn_wide.2 (stM _ _ _))).mono ?_; rintro e w' ⟨rfl, rfl⟩)
      refine ⟨(KeepsOthers.alloc _ _).from _, kp2_below kp2_r HB.out.size (bel1 W _), ⟨_, HV'.out, ?_, trivial⟩, ⟨⟨BF.out.alloc _, BA.out.alloc _⟩, BB.out.alloc _⟩, HB.out.alloc HB.out.size _⟩
      rw [stays_no rfl]
      exact HR'.out
    · have hn1 := news_new (W.alloc (.cells #[.bool true, .bool false] 127)) [.int .u32 z] 26
      rw [World.size_alloc] at hn1
      have HN1 := Lib.hid hn1
      clear hn1
      gi_wp2_with (first | (refine ⟨trivial, ?_⟩; gi_at_call 90; refine (CallsIn.inRound l (callsIn_wide.2 (stM _ _ _))).mono ?_; rintro e w' ⟨rfl, rfl⟩) | (gi_at_builtin; refine wpListIn_append_own _ rfl _ _ 27 rfl w.heap.size 26 i0 (.int .u32 0) 1 4 Try.underlying27 hi hz0 hz1 hz2 rfl (by decide) _ _ _ rfl (HR'.out.alloc _) ⟨W.heap.size + 1, 0, none⟩ 1 1 [.int .u32 z] rfl rfl HN1.out (one32 z) (by unfold maxLen; omega) (by omega) (by simp; omega) ?_; intro v' w1 hown' hgrow _; obtain ⟨g', cap', rfl⟩ := ownsRow_succ hown'; obtain ⟨hv1, hv2, hr2, hk2, hb2⟩ := HV'.out.appended (by decide) HR'.out (by simp; omega) (by omega) hown' hgrow; have hc1 := hv1.cell; have hf1 := hv1.frozen))
      have F3 := Boxed.thru (BF.out.alloc _) (by decide) HR'.out hgrow (B' := w.heap.size + 1) (by omega) (v' := .slice (some ⟨g', 0, none⟩) ((stays (fun p q => p && !q) pre).length + 1) cap')
      have A3 := Boxed.thru (BA.out.alloc _) (by decide) HR'.out hgrow (B' := w.heap.size + 1) (by omega) (v' := .slice (some ⟨g', 0, none⟩) ((stays (fun p q => p && !q) pre).length + 1) cap')
      have B3 := Boxed.thru (BB.out.alloc _) (by decide) HR'.out hgrow (B' := w.heap.size + 1) (by omega) (v' := .slice (some ⟨g', 0, none⟩) ((stays (fun p q => p && !q) pre).length + 1) cap')
      have hbel := ((Below.refl w.heap.size W).alloc (o := .cells #[.bool true, .bool false] 127) HB.out.size).trans hb2
      refine ⟨((KeepsOthers.alloc _ _).trans hk2).from _, ⟨hbel, fun u e => ?_, fun u e => ?_⟩, ⟨_, hv2, ?_, trivial⟩, ⟨⟨F3, A3⟩, B3⟩, HB.out.trans hbel⟩
      · rw [BA.out.cell] at e; rw [A3.cell]; exact e
      · rw [BB.out.cell] at e; rw [B3.cell]; exact e
      · rw [stays_yes rfl, va_snoc, List.length_append]
        exact hr2
    · gi_wp2_with (refine ⟨trivial, ?_⟩; gi_at_call 90; refine (CallsIn.inRound l (callsIn_wide.2 (stM _ _ _))).mono ?_; rintro e w' ⟨rfl, rfl⟩)
      refine ⟨(KeepsOthers.alloc _ _).from _, kp2_below kp2_r HB.out.size (bel1 W _), ⟨_, HV'.out, ?_, trivial⟩, ⟨⟨BF.out.alloc _, BA.out.alloc _⟩, BB.out.alloc _⟩, HB.out.alloc HB.out.size _⟩
      rw [stays_no rfl]
      exact HR'.out
  case done =>
    rintro D zs W hD rfl ⟨⟨v, hv, hrow, _⟩, _, hB⟩ hK
    have hLc := hv.cell
    have HV := Lib.hid hv
    have HR := Lib.hid hrow
    have HB := Lib.hid hB
    clear hv hrow hB
    gi_wp2
    refine ⟨by simp, .inl ⟨_, _, rfl, run_takeDeferred hK, ?_⟩⟩
    exact ⟨_, results_tmp rfl _ _ _, v, rfl, ownsRow_putObj HR.out _ hK rfl, HB.out.trans (belowK_b (w := w) (Nat.le_refl _) W D _ _ (by omega) hK rfl rfl)⟩
  case stop =>
    rintro D c pre W _ _ h _
    exact h.elim

theorem thr_sub (a b : List Int) : ∀ t ∈ thr a b, t.1 ∈ a ∨ t.1 ∈ b := by
  refine thr_ind (P := fun a b => ∀ t ∈ thr a b, t.1 ∈ a ∨ t.1 ∈ b) ?_ ?_ ?_ ?_ ?_ ?_ a b
  · rw [thr_nil]; simp
  · intro x a h t ht
    rw [thr_l] at ht
    rcases List.mem_cons.1 ht with rfl | ht
    · simp
    · rcases h t ht with h | h
      · exact .inl (List.mem_cons_of_mem _ h)
      · exact .inr h
  · intro y b h t ht
    rw [thr_r] at ht
    rcases List.mem_cons.1 ht with rfl | ht
    · simp
    · rcases h t ht with h | h
      · exact .inl h
      · exact .inr (List.mem_cons_of_mem _ h)
  · intro x y a b hxy h t ht
    rw [thr_lt hxy] at ht
    rcases List.mem_cons.1 ht with rfl | ht
    · simp
    · rcases h t ht with h | h
      · exact .inl (List.mem_cons_of_mem _ h)
      · exact .inr h
  · intro x y a b hxy h t ht
    rw [thr_gt hxy] at ht
    rcases List.mem_cons.1 ht with rfl | ht
    · simp
    · rcases h t ht with h | h
      · exact .inl h
      · exact .inr (List.mem_cons_of_mem _ h)
  · intro x a b h t ht
    rw [thr_eq] at ht
    rcases List.mem_cons.1 ht with rfl | ht
    · simp
    · exact (h t ht).imp (List.mem_cons_of_mem _) (List.mem_cons_of_mem _)
theorem isA_iff {l : List Int} : IsA l ↔ ∀ x ∈ l, 0 ≤ x ∧ x ≤ 4294967295 := by
  constructor
  · intro h x hx
    obtain ⟨i, hi, rfl⟩ := List.getElem_of_mem hx
    have := h i hi
    simpa [List.getD_eq_getElem?_getD, hi] using this
  · intro h i hi
    have := h l[i] (List.getElem_mem hi)
    simpa [List.getD_eq_getElem?_getD, hi] using this
theorem those_isA {p : Bool → Bool → Bool} {a b : List Int} (ha : IsA a) (hb : IsA b) : IsA (those p a b) := by
  rw [isA_iff] at ha hb ⊢
  intro x hx
  unfold those at hx
  obtain ⟨t, ht, rfl⟩ := List.mem_map.1 hx
  rcases thr_sub a b t (List.mem_filter.1 ht).1 with h | h
  · exact ha _ h
  · exact hb _ h
/-- What a row of the call's own hands back. -/
def Flat (a : Option Addr) (n c : Nat) : Prop := (a = none ∧ n = 0 ∧ c = 0) ∨ ∃ b off, a = some ⟨b, off, none⟩
def Out (w : World) (e : Ending) (w' : World) (zs : List Int) : Prop := (∃ a c, e = .returned (.slice a zs.length c) ∧ As w' a zs ∧ Flat a zs.length c) ∧ Below w.heap.size w w'
theorem out_of {w w' : World} {v : Value} {zs : List Int} (h : w'.ownsRow w.heap.size 26 1 v zs.length (va zs)) (hA : IsA zs) (hb : Below w.heap.size w w') : Out w (.returned v) w' zs := by
  refine ⟨?_, hb⟩
  rcases h.2 with ⟨rfl, h0⟩ | ⟨g, cap, cur, rfl, hB, _⟩
  · exact ⟨none, 0, by rw [h0], by rw [List.eq_nil_of_length_eq_zero h0]; exact As.nil _ _, .inl ⟨rfl, h0, rfl⟩⟩
  · exact ⟨_, cap, rfl, (AsO.of rfl h).as hA, .inr ⟨_, _, rfl⟩⟩
theorem sInter (a b : Option Addr) (la lb ca cb : Nat) (xs ys : List Int) (w : World) (hx : xs.length = la) (hy : ys.length = lb) (hla : la ≤ 400000) (hlb : lb ≤ 400000) (h1 : As w a xs) (h2 : As w b ys) :
    Calls Try.prog 67 #[.slice a la ca, .slice b lb cb] w fun e w' => Out w e w' (int xs ys) := by
  have H : ∀ w', Below w.heap.size w w' → Calls Try.prog 88 #[.slice a la ca, .slice b lb cb, .func (.func 89) #[] #[]] w' fun e w2 => Out w' e w2 (int xs ys) := fun w' hb =>
    ((callsIn_wide (n := 5)).1 (thoseI_in a b la lb ca cb xs ys w' hx hy hla hlb (h1.below hb) (h2.below hb))).mono fun e w2 ⟨v, e1, e2, e3⟩ => by subst e1; exact out_of e2 (those_isA h1.2 h2.2) e3
  have HH := Lib.hid H
  clear H h1 h2
  go_enter Try.func67, Try.ntmps67
  go_wp2_with (go_at_call 88; refine (HH.out _ (Below.refl _ _)).mono ?_; rintro e w2 ⟨⟨a', c', rfl, hA, hnil⟩, hB⟩; have HA := Lib.hid hA; have HB := Lib.hid hB; have HN := Lib.hid hnil; clear hA hB hnil)
  go_ret
  exact ⟨⟨a', c', rfl, HA.out, HN.out⟩, HB.out⟩
theorem sMinus (a b : Option Addr) (la lb ca cb : Nat) (xs ys : List Int) (w : World) (hx : xs.length = la) (hy : ys.length = lb) (hla : la ≤ 400000) (hlb : lb ≤ 400000) (h1 : As w a xs) (h2 : As w b ys) :
    Calls Try.prog 68 #[.slice a la ca, .slice b lb cb] w fun e w' => Out w e w' (dif xs ys) := by
  have H : ∀ w', Below w.heap.size w w' → Calls Try.prog 88 #[.slice a la ca, .slice b lb cb, .func (.func 90) #[] #[]] w' fun e w2 => Out w' e w2 (dif xs ys) := fun w' hb =>
    ((callsIn_wide (n := 5)).1 (thoseM_in a b la lb ca cb xs ys w' hx hy hla hlb (h1.below hb) (h2.below hb))).mono fun e w2 ⟨v, e1, e2, e3⟩ => by subst e1; exact out_of e2 (those_isA h1.2 h2.2) e3
  have HH := Lib.hid H
  clear H h1 h2
  go_enter Try.func68, Try.ntmps68
  go_wp2_with (go_at_call 88; refine (HH.out _ (Below.refl _ _)).mono ?_; rintro e w2 ⟨⟨a', c', rfl, hA, hnil⟩, hB⟩; have HA := Lib.hid hA; have HB := Lib.hid hB; have HN := Lib.hid hnil; clear hA hB hnil)
  go_ret
  exact ⟨⟨a', c', rfl, HA.out, HN.out⟩, HB.out⟩
end Go.Proofs.Ytllpmepmgnnoaaa
/- Whether a number is in a row; whether a row rises; whether two rows are the same (package set's, and the document's). -/
namespace Go.Proofs.Ytllpmepmgnnoaaa
set_option linter.unusedVariables false
open Go.RowKit

instance (l : List Int) : Decidable (Inc l) := inferInstanceAs (Decidable (List.Pairwise (· < ·) l))
theorem As.at {w : World} {a : Option Addr} {xs : List Int} (h : As w a xs) {k : Nat} (hk : k < xs.length) : ∃ b off, a = some ⟨b, off, none⟩ ∧ ∀ k, k < xs.length → w.cell? ⟨b, off + k, none⟩ = some (.int .u32 (xs.getD k 0)) := by
  rcases h.1 with e | h
  · rw [e] at hk; simp at hk
  · exact h
theorem mem_at {xs : List Int} {k : Nat} (hk : k < xs.length) : xs.getD k 0 ∈ xs := by
  rw [List.getD_eq_getElem?_getD, List.getElem?_eq_getElem hk]
  exact List.getElem_mem hk
theorem not_mem {xs : List Int} {x : Int} (h : ∀ j, j < xs.length → xs.getD j 0 ≠ x) : x ∉ xs := by
  intro hx
  obtain ⟨i, hi, e⟩ := List.getElem_of_mem hx
  have := h i hi
  rw [List.getD_eq_getElem?_getD, List.getElem?_eq_getElem hi] at this
  exact this e

set_option maxHeartbeats 1000000 in
theorem lIndex (a : Option Addr) (n c : Nat) (xs : List Int) (x : Int) (w : World) (hx : xs.length = n) (hm : n ≤ 1000000000) (h : As w a xs) :
    Calls Try.prog 133 #[.slice a n c, .int .u32 x] w fun e w' => (∃ r : Int, e = .returned (.int .i64 r) ∧ (decide (0 ≤ r) = decide (x ∈ xs))) ∧ w' = w := by
  have HX := Lib.hid hx
  have H := Lib.hid h
  clear hx h
  go_enter Try.func133, Try.ntmps133
  go_wp2
  go_loopw [8] (fun v wr => ∃ k : Nat, v = .int .i64 (k : Int) ∧ k ≤ n ∧ (∀ j, j < k → xs.getD j 0 ≠ x) ∧ wr = w) (fun v _ => n - (intOf v).toNat)
  case atStart => exact ⟨0, rfl, by omega, fun j hj => absurd hj (by omega), rfl⟩
  case round =>
    obtain ⟨k, rfl, hk, hno, rfl⟩ := hrel
    have HNO := Lib.hid hno
    clear hno
    by_cases hlt : k < n
    · obtain ⟨b, off, rfl, hc⟩ := H.out.at (k := k) (by rw [HX.out]; exact hlt)
      have c1 := hc k (by rw [HX.out]; exact hlt)
      have hkz : (k : Int) < (n : Int) := by omega
      clear hc
      by_cases he : x = xs.getD k 0
      · have hb : ((x : Int) == xs.getD k 0) = true := by simp [he]
        have HE := Lib.hid he
        clear he
        generalize hxv : xs.getD k 0 = y at *
        have HXV := Lib.hid hxv
        clear hxv
        go_wp2
        go_ret
        refine ⟨⟨k, rfl, ?_⟩, rfl⟩
        rw [decide_eq_true (by omega), decide_eq_true]
        rw [HE.out, ← HXV.out]
        exact mem_at (by rw [HX.out]; exact hlt)
      · have hb : ((x : Int) == xs.getD k 0) = false := by simpa using he
        have HE := Lib.hid he
        clear he
        generalize hxv : xs.getD k 0 = y at *
        have HXV := Lib.hid hxv
        clear hxv
        go_wp2
        go_roundw
        case rel =>
          refine ⟨k + 1, by go_num, by omega, fun j hj => ?_, by first | rfl | trivial⟩
          rcases Nat.lt_succ_iff_lt_or_eq.1 hj with hj | rfl
          · exact HNO.out j hj
          · rw [HXV.out]; exact fun e => HE.out e.symm
        case measure => simp [intOf]; omega
    · have hkn : k = n := by omega
      have HK := Lib.hid hkn
      clear hkn
      go_wp2
      go_ret
      refine ⟨⟨-1, rfl, ?_⟩, rfl⟩
      rw [decide_eq_false (by omega), decide_eq_false]
      exact not_mem fun j hj => HNO.out j (by rw [HK.out, ← HX.out]; exact hj)

theorem lContains (a : Option Addr) (n c : Nat) (xs : List Int) (x : Int) (w : World) (hx : xs.length = n) (hm : n ≤ 1000000000) (h : As w a xs) :
    Calls Try.prog 127 #[.slice a n c, .int .u32 x] w fun e w' => e = .returned (.bool (decide (x ∈ xs))) ∧ w' = w := by
  have HX := Lib.hid hx
  have H := Lib.hid h
  clear hx h
  go_enter Try.func127, Try.ntmps127
  go_wp2_with (go_at_call 133; refine (lIndex a n c xs x _ HX.out hm H.out).mono ?_; rintro e w' ⟨⟨r, rfl, hr⟩, rfl⟩; have HR := Lib.hid hr; clear hr)
  go_ret
  exact ⟨ret_bool HR.out, rfl⟩
theorem sHas (a : Option Addr) (n c : Nat) (xs : List Int) (x : Int) (w : World) (hx : xs.length = n) (hm : n ≤ 1000000000) (h : As w a xs) :
    Calls Try.prog 113 #[.slice a n c, .int .u32 x] w fun e w' => e = .returned (.bool (decide (x ∈ xs))) ∧ w' = w := by
  have HX := Lib.hid hx
  have H := Lib.hid h
  clear hx h
  go_enter Try.func113, Try.ntmps113
  go_wp2_with (go_at_call 127; refine (lContains a n c xs x _ HX.out hm H.out).mono ?_; rintro e w' ⟨rfl, rfl⟩)
  go_ret
  exact ⟨rfl, rfl⟩
theorem sSame (a b : Option Addr) (n m c d : Nat) (xs ys : List Int) (w : World) (hx : xs.length = n) (hy : ys.length = m) (hm : n ≤ 1000000000) (h1 : As w a xs) (h2 : As w b ys) :
    Calls Try.prog 66 #[.slice a n c, .slice b m d] w fun e w' => e = .returned (.bool (decide (xs = ys))) ∧ Below w.heap.size w w' := by
  have HX := Lib.hid hx
  have HY := Lib.hid hy
  have H1 := Lib.hid h1
  have H2 := Lib.hid h2
  clear hx hy h1 h2
  go_enter Try.func66, Try.ntmps66
  go_wp2_with (go_at_call 87; refine (lEq a b n m c d xs ys _ HX.out HY.out (by omega) H1.out H2.out).mono ?_; rintro e w' ⟨rfl, hb⟩; have HB := Lib.hid hb; clear hb)
  go_ret
  exact ⟨rfl, HB.out⟩

set_option maxHeartbeats 1000000 in
theorem rHas (a : Option Addr) (n c : Nat) (xs : List Int) (x : Int) (w : World) (hx : xs.length = n) (hm : n ≤ 1000000000) (h : As w a xs) :
    Calls Try.prog 31 #[.slice a n c, .int .u32 x] w fun e w' => e = .returned (.bool (decide (x ∈ xs))) ∧ w' = w := by
  have HX := Lib.hid hx
  have H := Lib.hid h
  clear hx h
  go_enter Try.func31, Try.ntmps31
  go_wp2
  go_loopw [5] (fun v wr => ∃ k : Nat, v = .int .i64 (k : Int) ∧ k ≤ n ∧ (∀ j, j < k → xs.getD j 0 ≠ x) ∧ wr = w) (fun v _ => n - (intOf v).toNat)
  case atStart => exact ⟨0, rfl, by omega, fun j hj => absurd hj (by omega), rfl⟩
  case round =>
    obtain ⟨k, rfl, hk, hno, rfl⟩ := hrel
    have HNO := Lib.hid hno
    clear hno
    by_cases hlt : k < n
    · obtain ⟨b, off, rfl, hc⟩ := H.out.at (k := k) (by rw [HX.out]; exact hlt)
      have c1 := hc k (by rw [HX.out]; exact hlt)
      have hkz : (k : Int) < (n : Int) := by omega
      clear hc
      by_cases he : xs.getD k 0 = x
      · have hb : (xs.getD k 0 == (x : Int)) = true := by simpa using he
        have HE := Lib.hid he
        clear he
        generalize hxv : xs.getD k 0 = y at *
        have HXV := Lib.hid hxv
        clear hxv
        go_wp2
        go_ret
        refine ⟨ret_bool ?_, rfl⟩
        symm
        rw [decide_eq_true_eq]
        rw [← HE.out, ← HXV.out]
        exact mem_at (by rw [HX.out]; exact hlt)
      · have hb : (xs.getD k 0 == (x : Int)) = false := by simpa using he
        have HE := Lib.hid he
        clear he
        generalize hxv : xs.getD k 0 = y at *
        have HXV := Lib.hid hxv
        clear hxv
        go_wp2
        go_roundw
        case rel =>
          refine ⟨k + 1, by go_num, by omega, fun j hj => ?_, by first | rfl | trivial⟩
          rcases Nat.lt_succ_iff_lt_or_eq.1 hj with hj | rfl
          · exact HNO.out j hj
          · rw [HXV.out]; exact HE.out
        case measure => simp [intOf]; omega
    · have hkn : k = n := by omega
      have HK := Lib.hid hkn
      clear hkn
      go_wp2
      go_ret
      refine ⟨ret_bool ?_, rfl⟩
      symm
      rw [decide_eq_false_iff_not]
      exact not_mem fun j hj => HNO.out j (by rw [HK.out, ← HX.out]; exact hj)

/-- Rising, by neighbours. -/
theorem inc_adj : ∀ {l : List Int}, Inc l ↔ ∀ k, k + 1 < l.length → l.getD k 0 < l.getD (k + 1) 0
  | [] => by simp [inc_nil]
  | [x] => by simp [inc_cons, inc_nil]
  | x :: y :: l => by
    rw [inc_cons, inc_adj (l := y :: l)]
    constructor
    · rintro ⟨h1, h2⟩ k hk
      cases k with
      | zero => exact h1 y (List.mem_cons_self ..)
      | succ k =>
        have := h2 k (by simp at hk ⊢; omega)
        simpa using this
    · intro h
      have h2 : ∀ k, k + 1 < (y :: l).length → (y :: l).getD k 0 < (y :: l).getD (k + 1) 0 := fun k hk => by
        have := h (k + 1) (by simp at hk ⊢; omega)
        simpa using this
      refine ⟨fun z hz => ?_, h2⟩
      have hxy : x < y := by have := h 0 (by simp); simpa using this
      have hi := inc_adj.2 h2
      rw [inc_cons] at hi
      rcases List.mem_cons.1 hz with rfl | hz
      · exact hxy
      · have := hi.1 z hz; omega

def PreI (xs : List Int) (k : Nat) : Prop := ∀ j, j < k → xs.getD j 0 < xs.getD (j + 1) 0
theorem preI_step {xs : List Int} {k : Nat} (h : PreI xs k) (e : xs.getD k 0 < xs.getD (k + 1) 0) : PreI xs (k + 1) := by
  intro j hj
  rcases Nat.lt_succ_iff_lt_or_eq.1 hj with hj | rfl
  · exact h j hj
  · exact e
end Go.Proofs.Ytllpmepmgnnoaaa
/- Whether a row rises (package set's, and the document's). -/
namespace Go.Proofs.Ytllpmepmgnnoaaa
set_option linter.unusedVariables false
open Go.RowKit

set_option maxHeartbeats 1000000 in
theorem rRight (a : Option Addr) (n c : Nat) (xs : List Int) (w : World) (hx : xs.length = n) (hm : n ≤ 1000000000) (h : As w a xs) :
    Calls Try.prog 34 #[.slice a n c] w fun e w' => e = .returned (.bool (decide (Inc xs))) ∧ Below w.heap.size w w' := by
  have HX := Lib.hid hx
  have H := Lib.hid h
  clear hx h
  have YES : Hid (∀ k, n ≤ k + 1 → PreI xs k → decide (Inc xs) = true) := Lib.hid (fun k hk hp => by
    rw [decide_eq_true_eq, inc_adj]
    intro j hj
    exact hp j (by rw [HX.out] at hj; omega))
  have NO : Hid (∀ k, k + 1 < n → ¬ xs.getD k 0 < xs.getD (k + 1) 0 → decide (Inc xs) = false) := Lib.hid (fun k hk hp => by
    rw [decide_eq_false_iff_not, inc_adj]
    intro hh
    exact hp (hh k (by rw [HX.out]; exact hk)))
  go_enter Try.func34, Try.ntmps34
  go_wp2
  go_loopw [3] (fun v wr => ∃ k q : Nat, v = .int .i64 ((k : Int) + 1) ∧ (k = 0 ∨ k + 1 ≤ n) ∧ PreI xs k ∧ wr = w.drewN q) (fun v _ => n + 1 - (intOf v).toNat)
  case atStart => exact ⟨0, 0, rfl, .inl rfl, fun j hj => absurd hj (by omega), by first | rfl | trivial⟩
  case round =>
    obtain ⟨k, q, rfl, hk, hp, rfl⟩ := hrel
    have HP := Lib.hid hp
    clear hp
    by_cases hlt : k + 1 < n
    · obtain ⟨b, off, rfl, hc⟩ := H.out.at (k := k) (by rw [HX.out]; omega)
      have c1 : ∀ q, (w.drewN q).cell? ⟨b, off + k, none⟩ = some (.int .u32 (xs.getD k 0)) := fun q => hc k (by rw [HX.out]; omega)
      have c2 : ∀ q, (w.drewN q).cell? ⟨b, off + (k + 1), none⟩ = some (.int .u32 (xs.getD (k + 1) 0)) := fun q => hc (k + 1) (by rw [HX.out]; omega)
      have i0 : (0 : Int) ≤ (k : Int) := by omega
      have i1 : (k : Int) < (n : Int) := by omega
      have i2 : (k : Int) + 1 < (n : Int) := by omega
      have i3 : (k : Int) < (n : Int) - 1 := by omega
      clear hc
      generalize hxv : xs.getD k 0 = x at *
      generalize hyv : xs.getD (k + 1) 0 = y at *
      have HXV := Lib.hid hxv
      have HYV := Lib.hid hyv
      clear hxv hyv
      by_cases hxy : x < y
      · have hd : decide (y ≤ x) = false := decide_eq_false (by omega)
        go_wp2
        go_quiet (fail)
        go_wp2
        go_roundw
        case rel => exact ⟨k + 1, _, by go_num, .inr (by omega), preI_step HP.out (by rw [HXV.out, HYV.out]; exact hxy), rfl⟩
        case measure => simp [intOf]; omega
      · have hd : decide (y ≤ x) = true := decide_eq_true (by omega)
        go_wp2
        go_quiet (fail)
        go_wp2
        go_ret
        exact ⟨ret_bool (NO.out k hlt (by rw [HXV.out, HYV.out]; exact hxy)).symm, bdrawn (bdrawn (Below.refl _ _) _) _⟩
    · have i3 : ¬ ((k : Int) < (n : Int) - 1) := by omega
      have i4 : ¬ ((k : Int) + 1 < (n : Int)) := by omega
      go_wp2
      go_ret
      exact ⟨ret_bool (YES.out k (by omega) HP.out).symm, bdrawn (Below.refl _ _) _⟩
set_option maxHeartbeats 1000000 in
theorem sRight (a : Option Addr) (n c : Nat) (xs : List Int) (w : World) (hx : xs.length = n) (hm : n ≤ 1000000000) (h : As w a xs) :
    Calls Try.prog 65 #[.slice a n c] w fun e w' => e = .returned (.bool (decide (Inc xs))) ∧ Below w.heap.size w w' := by
  have HX := Lib.hid hx
  have H := Lib.hid h
  clear hx h
  have YES : Hid (∀ k, n ≤ k + 1 → PreI xs k → decide (Inc xs) = true) := Lib.hid (fun k hk hp => by
    rw [decide_eq_true_eq, inc_adj]
    intro j hj
    exact hp j (by rw [HX.out] at hj; omega))
  have NO : Hid (∀ k, k + 1 < n → ¬ xs.getD k 0 < xs.getD (k + 1) 0 → decide (Inc xs) = false) := Lib.hid (fun k hk hp => by
    rw [decide_eq_false_iff_not, inc_adj]
    intro hh
    exact hp (hh k (by rw [HX.out]; exact hk)))
  go_enter Try.func65, Try.ntmps65
  go_wp2
  go_loopw [7] (fun v wr => ∃ k q : Nat, v = .int .i64 ((k : Int)) ∧ (k = 0 ∨ k + 1 ≤ n) ∧ PreI xs k ∧ wr = w.drewN q) (fun v _ => n + 1 - (intOf v).toNat)
  case atStart => exact ⟨0, 0, rfl, .inl rfl, fun j hj => absurd hj (by omega), by first | rfl | trivial⟩
  case round =>
    obtain ⟨k, q, rfl, hk, hp, rfl⟩ := hrel
    have HP := Lib.hid hp
    clear hp
    by_cases hlt : k + 1 < n
    · obtain ⟨b, off, rfl, hc⟩ := H.out.at (k := k) (by rw [HX.out]; omega)
      have c1 : ∀ q, (w.drewN q).cell? ⟨b, off + k, none⟩ = some (.int .u32 (xs.getD k 0)) := fun q => hc k (by rw [HX.out]; omega)
      have c2 : ∀ q, (w.drewN q).cell? ⟨b, off + (k + 1), none⟩ = some (.int .u32 (xs.getD (k + 1) 0)) := fun q => hc (k + 1) (by rw [HX.out]; omega)
      have i0 : (0 : Int) ≤ (k : Int) := by omega
      have i1 : (k : Int) < (n : Int) := by omega
      have i2 : (k : Int) + 1 < (n : Int) := by omega
      have i3 : (k : Int) < (n : Int) - 1 := by omega
      clear hc
      generalize hxv : xs.getD k 0 = x at *
      generalize hyv : xs.getD (k + 1) 0 = y at *
      have HXV := Lib.hid hxv
      have HYV := Lib.hid hyv
      clear hxv hyv
      by_cases hxy : x < y
      · have hd : decide (y ≤ x) = false := decide_eq_false (by omega)
        go_wp2
        go_quiet (fail)
        go_wp2
        go_roundw
        case rel => exact ⟨k + 1, _, by go_num, .inr (by omega), preI_step HP.out (by rw [HXV.out, HYV.out]; exact hxy), rfl⟩
        case measure => simp [intOf]; omega
      · have hd : decide (y ≤ x) = true := decide_eq_true (by omega)
        go_wp2
        go_quiet (fail)
        go_wp2
        go_ret
        exact ⟨ret_bool (NO.out k hlt (by rw [HXV.out, HYV.out]; exact hxy)).symm, bdrawn (bdrawn (Below.refl _ _) _) _⟩
    · have i3 : ¬ ((k : Int) < (n : Int) - 1) := by omega
      have i4 : ¬ ((k : Int) + 1 < (n : Int)) := by omega
      go_wp2
      go_ret
      exact ⟨ret_bool (YES.out k (by omega) HP.out).symm, bdrawn (Below.refl _ _) _⟩
end Go.Proofs.Ytllpmepmgnnoaaa
