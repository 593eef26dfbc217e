/- Package set's those: what stays of two rows gone through at once. -/
import Derived.Test.YtllpmepmgnnoaaaGreatPb
import Derived.Maps.AppendAt
namespace Go.Proofs.YtllpmepmgnnoaaaGreat
set_option linter.unusedVariables false
open Go.RowKit Go.Shelf
attribute [local go_sem] Oper.semAt_some

/-- Two rows gone through, to the end. -/
theorem thr_stops (n : Nat) (hn : 1 ≤ n) (Ba Bb : Nat) (a b : Option Addr) (la lb ca cb : Nat) (xs ys : List Int) (hx : xs.length = la) (hy : ys.length = lb) (hla : la ≤ 1000000) (hlb : lb ≤ 1000000)
    (w0 w : World) (hb0 : Below w0.heap.size w0 w) (hBa : Ba < w.heap.size) (hBb : Bb < w.heap.size) (hA : w.cell? ⟨Ba, 0, none⟩ = some (.slice a la ca)) (hB : w.cell? ⟨Bb, 0, none⟩ = some (.slice b lb cb)) (h1 : As w0 a xs) (h2 : As w0 b ys) :
    SeqStopsK Fence.wide n Tryz.prog 120 #[.pointer (some ⟨Ba, 0, none⟩), .pointer (some ⟨Bb, 0, none⟩)] (fun x : Z3 => #[Value.int .u32 x.1, .agg #[.bool x.2.1, .bool x.2.2]]) (Kp2 w0.heap.size Ba Bb) (fun zs => zs = thr xs ys) (fun _ => True) (thr xs ys).length w := fun l J Jx W hW hJ _ hY h0 => by
  have k : ∀ {c : Option Addr} {zs : List Int} {m : Nat}, zs.length = m → As w0 c zs → zs = [] ∨ ∃ g off, c = some ⟨g, off, none⟩ ∧ g < w0.heap.size ∧ ∀ k, k < m → W.cell? ⟨g, off + k, none⟩ = some (.int .u32 (zs.getD k 0)) := by
    intro c zs m hm h
    by_cases hz : zs = []
    · exact .inl hz
    · rcases h.1 with e | ⟨g, off, e, hc⟩
      · exact .inl e
      · have hpos : 0 < zs.length := List.length_pos_iff.2 hz
        have hg : g < w0.heap.size := cell_lt (hc 0 hpos)
        exact .inr ⟨g, off, e, hg, fun k hk => ((hb0.trans (hW.mono hb0.size)).cell (p := ⟨g, off + k, none⟩) hg).trans (hc k (by omega))⟩
  exact thr1_in n hn l Ba Bb w0.heap.size la lb ca cb a b xs ys hx hy hla hlb J Jx W hJ (Nat.le_trans hb0.size hW.size) hY ((hW.cell (p := ⟨Ba, 0, none⟩) hBa).trans hA) ((hW.cell (p := ⟨Bb, 0, none⟩) hBb).trans hB) (k hx h1) (k hy h2) h0

theorem Boxed.thru {W w1 : World} {n₀ B B' : Nat} {t e : TypeId} {size k : Nat} {u v v' : Value} {xs : List Value} {tmp : Obj} (h : Boxed W B t u) (hte : t ≠ e) (hrow : W.ownsRow n₀ e size v k xs) (hgrow : (W.alloc tmp).grownBy w1 v.ownBlock) (hne : B ≠ B') : Boxed (w1.setCell ⟨B', 0, none⟩ v') B t u :=
  Boxed.other (Boxed.kept (Boxed.alloc h tmp) hgrow (Boxed.not_row h hte hrow)) hne v'
theorem sThrough (a b : Option Addr) (la lb ca cb : Nat) (w : World) :
    Calls Tryz.prog 95 #[.slice a la ca, .slice b lb cb] w fun e w' => e = .returned (.func (.func 120) #[] #[.pointer (some ⟨w.heap.size, 0, none⟩), .pointer (some ⟨w.heap.size + 1, 0, none⟩)]) ∧
      w' = (w.alloc (.cells #[.slice a la ca] 29)).alloc (.cells #[.slice b lb cb] 29) := by
  go_enter Tryz.func95, Tryz.ntmps95
  go_wp2
  go_ret
  exact ⟨by simp, rfl⟩

/-- What stays of what has come. -/
def stays (p : Bool → Bool → Bool) (l : List Z3) : List Int := (l.filter fun t => p t.2.1 t.2.2).map (·.1)
theorem stays_thr (p : Bool → Bool → Bool) (a b : List Int) : stays p (thr a b) = those p a b := rfl
theorem stays_yes {p : Bool → Bool → Bool} {l : List Z3} {x : Z3} (h : p x.2.1 x.2.2 = true) : stays p (l ++ [x]) = stays p l ++ [x.1] := by
  unfold stays
  rw [List.filter_append, List.map_append]
  simp [h]
theorem stays_no {p : Bool → Bool → Bool} {l : List Z3} {x : Z3} (h : p x.2.1 x.2.2 = false) : stays p (l ++ [x]) = stays p l := by
  unfold stays
  rw [List.filter_append, List.map_append]
  simp [h]
theorem stays_len (p : Bool → Bool → Bool) (l : List Z3) : (stays p l).length ≤ l.length := by
  unfold stays
  rw [List.length_map]
  exact List.length_filter_le _ _

theorem stI (p q : Bool) (w : World) : Calls Tryz.prog 78 #[.agg #[.bool p, .bool q]] w fun e w' => e = .returned (.bool (p && q)) ∧ w' = w.alloc (.cells #[.bool p, .bool q] 97) := by
  cases p <;> cases q <;>
  · go_enter Tryz.func78, Tryz.ntmps78
    go_wp2
    go_ret
    exact ⟨rfl, rfl⟩
set_option maxRecDepth 100000 in
set_option maxHeartbeats 4000000 in
theorem thoseI_in (a b : Option Addr) (la lb ca cb : Nat) (xs ys : List Int) (w : World) (hx : xs.length = la) (hy : ys.length = lb) (hla : la ≤ 400000) (hlb : lb ≤ 400000) (h1 : As w a xs) (h2 : As w b ys) :
    CallsIn Fence.wide 5 Tryz.prog 75 #[.slice a la ca, .slice b lb cb, .func (.func 78) #[] #[]] w fun e w' =>
      ∃ v, e = .returned v ∧ w'.ownsRow w.heap.size 25 1 v (those (fun p q => p && q) xs ys).length (va (those (fun p q => p && q) xs ys)) ∧ Below w.heap.size w w' := by
  have hth := thr_len xs ys
  rw [hx, hy] at hth
  have HX := Lib.hid hx
  have HY := Lib.hid hy
  have H1 := Lib.hid h1
  have H2 := Lib.hid h2
  clear hx hy h1 h2
  refine callsIn_of_wp_marks Tryz.func75 rfl trivial ?_ rfl
  simp only [Tryz.ntmps75, List.size_toArray, List.length_cons, List.length_nil, Nat.reduceAdd, Nat.reduceSub, Array.replicate_succ, Array.replicate_zero, List.push_toArray, List.append_toArray, List.nil_append, List.cons_append]
  gi_wp2_with (refine ⟨trivial, ?_⟩; gi_at_call 95; refine (callsIn_wide.2 (sThrough _ _ _ _ _ _ _)).mono ?_; rintro e w' ⟨rfl, rfl⟩)
  have bF := (((Boxed.new w 98 (.func (.func 78) #[] #[])).alloc (.cells #[.slice none 0 0] 29)).alloc (.cells #[.slice a la ca] 29)).alloc (.cells #[.slice b lb cb] 29)
  have bL := ((Boxed.new (w.alloc (.cells #[.func (.func 78) #[] #[]] 98)) 29 (.slice none 0 0)).alloc (.cells #[.slice a la ca] 29)).alloc (.cells #[.slice b lb cb] 29)
  have bA := (Boxed.new ((w.alloc (.cells #[.func (.func 78) #[] #[]] 98)).alloc (.cells #[.slice none 0 0] 29)) 29 (.slice a la ca)).alloc (.cells #[.slice b lb cb] 29)
  have bB := Boxed.new (((w.alloc (.cells #[.func (.func 78) #[] #[]] 98)).alloc (.cells #[.slice none 0 0] 29)).alloc (.cells #[.slice a la ca] 29)) 29 (.slice b lb cb)
  simp only [World.size_alloc] at bF bL bA bB
  have hB0 : Below w.heap.size w ((((w.alloc (.cells #[.func (.func 78) #[] #[]] 98)).alloc (.cells #[.slice none 0 0] 29)).alloc (.cells #[.slice a la ca] 29)).alloc (.cells #[.slice b lb cb] 29)) := ((((Below.refl _ w).alloc (Nat.le_refl _) _).alloc (by simp) _).alloc (by simp; omega) _).alloc (by simp; omega) _
  have hsz : ((((w.alloc (.cells #[.func (.func 78) #[] #[]] 98)).alloc (.cells #[.slice none 0 0] 29)).alloc (.cells #[.slice a la ca] 29)).alloc (.cells #[.slice b lb cb] 29)).heap.size = w.heap.size + 4 := by simp
  obtain ⟨W0, hW0⟩ : ∃ W0, (((w.alloc (.cells #[.func (.func 78) #[] #[]] 98)).alloc (.cells #[.slice none 0 0] 29)).alloc (.cells #[.slice a la ca] 29)).alloc (.cells #[.slice b lb cb] 29) = W0 := ⟨_, rfl⟩
  rw [hW0] at bF bL bA bB hB0 hsz ⊢
  clear hW0
  obtain ⟨i0, hi, hz0, hz1, hz2⟩ := info_parts infoA
  refine wpIn_rangeFunc_ownH rfl (by omega) (gf := 120) (lb := #[.pointer (some ⟨w.heap.size + 1 + 1, 0, none⟩), .pointer (some ⟨w.heap.size + 1 + 1 + 1, 0, none⟩)]) rfl trivial (enters_of Tryz.func120 (by kernel_rfl) rfl)
    (thr_stops _ (by omega) (w.heap.size + 1 + 1) (w.heap.size + 1 + 1 + 1) a b la lb ca cb xs ys HX.out HY.out (by omega) (by omega) w W0 hB0 (by omega) (by omega) bA.cell bB.cell H1.out H2.out) kp2_t (kp2_b (by omega)) (Below.refl _ _) (fun _ => rfl)
    (fun pre W => (∃ v, Boxed W (w.heap.size + 1) 29 v ∧ W.ownsRow w.heap.size 25 1 v (stays (fun p q => p && q) pre).length (va (stays (fun p q => p && q) pre)) ∧ True) ∧
      ((Boxed W w.heap.size 98 (.func (.func 78) #[] #[]) ∧ Boxed W (w.heap.size + 1 + 1) 29 (.slice a la ca)) ∧ Boxed W (w.heap.size + 1 + 1 + 1) 29 (.slice b lb cb)) ∧ Below w.heap.size w W)
    (fun _ _ _ => False)
    (OwnFrom.and (Own.from (holdsRow_own w.heap.size (w.heap.size + 1) 29 25 1 (fun pre => (stays (fun p q => p && q) pre).length) (fun pre => va (stays (fun p q => p && q) pre)) (fun _ _ => True)) _)
      (OwnFrom.and (OwnFrom.and (OwnFrom.and (Own.from (boxed_own _ _ (fun _ => _)) _) (Own.from (boxed_own _ _ (fun _ => _)) _)) (Own.from (boxed_own _ _ (fun _ => _)) _)) (ownFrom_below (Nat.le_refl _) (by omega))))
    (fun _ _ _ _ _ hs _ _ => hs)
    ⟨⟨_, bL, World.ownsRow_nil _ _ _ _, trivial⟩, ⟨⟨bF, bA⟩, bB⟩, hB0⟩
    (fun x a' W => ∃ Bx, w.heap.size + 3 < Bx ∧ W.heap[Bx]? = some (.cells #[.bool x.2.1, .bool x.2.2] 97 (0, 0)) ∧ a' = { tmps := #[.slice a la ca, .slice b lb cb, .func (.func 78) #[] #[], undef, undef, .pointer (some ⟨w.heap.size, 0, none⟩), .slice none 0 0, .pointer (some ⟨w.heap.size + 1, 0, none⟩), .int .u32 x.1, .pointer (some ⟨Bx, 0, none⟩), .slice a la ca, .slice b lb cb, .func (.func 120) #[] #[.pointer (some ⟨w.heap.size + 1 + 1, 0, none⟩), .pointer (some ⟨w.heap.size + 1 + 1 + 1, 0, none⟩)], .int .u32 x.1, .agg #[.bool x.2.1, .bool x.2.2], undef, undef, undef, undef, undef, undef, undef, undef], defers := [] })
    ?hAx ?assign ?body ?done ?stop
  case hAx =>
    rintro x a' s X Y row ⟨Bx, h1, h2, h3⟩ hg hrow
    refine ⟨Bx, h1, (hg.block Bx (Array.getElem?_eq_some_iff.1 h2).1 fun e => ?_).trans h2, h3⟩
    obtain ⟨_, o, ho, hc⟩ := hrow Bx e.symm
    rw [h2] at ho; cases ho; cases hc
  case assign =>
    rintro l pre x W K ⟨⟨v, hv, hrow, _⟩, ⟨⟨bF, bA⟩, bB⟩, hB⟩ hK
    have hsW : w.heap.size + 4 ≤ W.heap.size := by
      have := bB.lt
      omega
    gi_wp2
    refine hK _ _ ((KeepsOthers.alloc _ _).from _) (kp2_below kp2_r hB.size (bel1 W _)) ⟨⟨v, hv.alloc _, hrow.alloc _, trivial⟩, ⟨⟨bF.alloc _, bA.alloc _⟩, bB.alloc _⟩, hB.alloc hB.size _⟩ ⟨W.heap.size, by omega, Go.Deep.blk_alloc_new _ _, rfl⟩
  case body =>
    rintro l pre x a' W hl ⟨r, hr⟩ ⟨⟨v, hv, hrow, _⟩, ⟨⟨bF, bA⟩, bB⟩, hB⟩ ⟨Bx, hBx, bX, rfl⟩ hlt
    obtain ⟨z, p, q⟩ := x
    obtain ⟨k0, k1, _, _, _⟩ := two_cells bX undef undef
    have hlen := stays_len (fun p q => p && q) pre
    have hsW : w.heap.size + 4 ≤ W.heap.size := by
      have := bB.lt
      omega
    have hFc := bF.cell
    have hv' := hv.alloc (.cells #[.bool p, .bool q] 97)
    have hrow' := hrow.alloc (.cells #[.bool p, .bool q] 97)
    have hLc := hv'.cell
    have HV := Lib.hid hv
    have HV' := Lib.hid hv'
    have HR := Lib.hid hrow
    have HR' := Lib.hid hrow'
    have BF := Lib.hid bF
    have BA := Lib.hid bA
    have BB := Lib.hid bB
    have HB := Lib.hid hB
    clear hv hv' hrow hrow' bF bA bB hB bX
    dsimp only
    cases p <;> cases q
    · gi_wp2_with (refine ⟨trivial, ?_⟩; gi_at_call 78; refine (CallsIn.inRound l (callsIn_wide.2 (stI _ _ _))).mono ?_; rintro e w' ⟨rfl, rfl⟩)
      refine ⟨(KeepsOthers.alloc _ _).from _, kp2_below kp2_r HB.out.size (bel1 W _), ⟨_, HV'.out, ?_, trivial⟩, ⟨⟨BF.out.alloc _, BA.out.alloc _⟩, BB.out.alloc _⟩, HB.out.alloc HB.out.size _⟩
      rw [stays_no rfl]
      exact HR'.out
    · gi_wp2_with (refine ⟨trivial, ?_⟩; gi_at_call 78; refine (CallsIn.inRound l (callsIn_wide.2 (stI _ _ _))).mono ?_; rintro e w' ⟨rfl, rfl⟩)
      refine ⟨(KeepsOthers.alloc _ _).from _, kp2_below kp2_r HB.out.size (bel1 W _), ⟨_, HV'.out, ?_, trivial⟩, ⟨⟨BF.out.alloc _, BA.out.alloc _⟩, BB.out.alloc _⟩, HB.out.alloc HB.out.size _⟩
      rw [stays_no rfl]
      exact HR'.out
    · gi_wp2_with (refine ⟨trivial, ?_⟩; gi_at_call 78; refine (CallsIn.inRound l (callsIn_wide.2 (stI _ _ _))).mono ?_; rintro e w' ⟨rfl, rfl⟩)
      refine ⟨(KeepsOthers.alloc _ _).from _, kp2_below kp2_r HB.out.size (bel1 W _), ⟨_, HV'.out, ?_, trivial⟩, ⟨⟨BF.out.alloc _, BA.out.alloc _⟩, BB.out.alloc _⟩, HB.out.alloc HB.out.size _⟩
      rw [stays_no rfl]
      exact HR'.out
    · have hn1 := news_new (W.alloc (.cells #[.bool true, .bool true] 97)) [.int .u32 z] 25
      rw [World.size_alloc] at hn1
      have HN1 := Lib.hid hn1
      clear hn1
      gi_wp2_with (first | (refine ⟨trivial, ?_⟩; gi_at_call 78; refine (CallsIn.inRound l (callsIn_wide.2 (stI _ _ _))).mono ?_; rintro e w' ⟨rfl, rfl⟩) | (gi_at_builtin; refine wpListIn_append_own _ rfl _ _ 29 rfl w.heap.size 25 i0 (.int .u32 0) 1 4 Tryz.underlying29 hi hz0 hz1 hz2 rfl (by decide) _ _ _ rfl (HR'.out.alloc _) ⟨W.heap.size + 1, 0, none⟩ 1 1 [.int .u32 z] rfl rfl HN1.out (one32 z) (by unfold maxLen; omega) (by omega) (by simp; omega) ?_; intro v' w1 hown' hgrow _; obtain ⟨g', cap', rfl⟩ := ownsRow_succ hown'; obtain ⟨hv1, hv2, hr2, hk2, hb2⟩ := HV'.out.appended (by decide) HR'.out (by simp; omega) (by omega) hown' hgrow; have hc1 := hv1.cell; have hf1 := hv1.frozen))
      have F3 := Boxed.thru (BF.out.alloc _) (by decide) HR'.out hgrow (B' := w.heap.size + 1) (by omega) (v' := .slice (some ⟨g', 0, none⟩) ((stays (fun p q => p && q) pre).length + 1) cap')
      have A3 := Boxed.thru (BA.out.alloc _) (by decide) HR'.out hgrow (B' := w.heap.size + 1) (by omega) (v' := .slice (some ⟨g', 0, none⟩) ((stays (fun p q => p && q) pre).length + 1) cap')
      have B3 := Boxed.thru (BB.out.alloc _) (by decide) HR'.out hgrow (B' := w.heap.size + 1) (by omega) (v' := .slice (some ⟨g', 0, none⟩) ((stays (fun p q => p && q) pre).length + 1) cap')
      have hbel := ((Below.refl w.heap.size W).alloc (o := .cells #[.bool true, .bool true] 97) HB.out.size).trans hb2
      refine ⟨((KeepsOthers.alloc _ _).trans hk2).from _, ⟨hbel, fun u e => ?_, fun u e => ?_⟩, ⟨_, hv2, ?_, trivial⟩, ⟨⟨F3, A3⟩, B3⟩, HB.out.trans hbel⟩
      · rw [BA.out.cell] at e; rw [A3.cell]; exact e
      · rw [BB.out.cell] at e; rw [B3.cell]; exact e
      · rw [stays_yes rfl, va_snoc, List.length_append]
        exact hr2
  case done =>
    rintro D zs W hD rfl ⟨⟨v, hv, hrow, _⟩, _, hB⟩ hK
    have hLc := hv.cell
    have HV := Lib.hid hv
    have HR := Lib.hid hrow
    have HB := Lib.hid hB
    clear hv hrow hB
    gi_wp2
    refine ⟨by simp, .inl ⟨_, _, rfl, run_takeDeferred hK, ?_⟩⟩
    exact ⟨_, results_tmp rfl _ _ _, v, rfl, ownsRow_putObj HR.out _ hK rfl, HB.out.trans (belowK_b (w := w) (Nat.le_refl _) W D _ _ (by omega) hK rfl rfl)⟩
  case stop =>
    rintro D c pre W _ _ h _
    exact h.elim

theorem stM (p q : Bool) (w : World) : Calls Tryz.prog 76 #[.agg #[.bool p, .bool q]] w fun e w' => e = .returned (.bool (p && !q)) ∧ w' = w.alloc (.cells #[.bool p, .bool q] 97) := by
  cases p <;> cases q <;>
  · go_enter Tryz.func76, Tryz.ntmps76
    go_wp2
    go_ret
    exact ⟨rfl, rfl⟩
set_option maxRecDepth 100000 in
set_option maxHeartbeats 4000000 in
theorem thoseM_in (a b : Option Addr) (la lb ca cb : Nat) (xs ys : List Int) (w : World) (hx : xs.length = la) (hy : ys.length = lb) (hla : la ≤ 400000) (hlb : lb ≤ 400000) (h1 : As w a xs) (h2 : As w b ys) :
    CallsIn Fence.wide 5 Tryz.prog 75 #[.slice a la ca, .slice b lb cb, .func (.func 76) #[] #[]] w fun e w' =>
      ∃ v, e = .returned v ∧ w'.ownsRow w.heap.size 25 1 v (those (fun p q => p && !q) xs ys).length (va (those (fun p q => p && !q) xs ys)) ∧ Below w.heap.size w w' := by
  have hth := thr_len xs ys
  rw [hx, hy] at hth
  have HX := Lib.hid hx
  have HY := Lib.hid hy
  have H1 := Lib.hid h1
  have H2 := Lib.hid h2
  clear hx hy h1 h2
  refine callsIn_of_wp_marks Tryz.func75 rfl trivial ?_ rfl
  simp only [Tryz.ntmps75, List.size_toArray, List.length_cons, List.length_nil, Nat.reduceAdd, Nat.reduceSub, Array.replicate_succ, Array.replicate_zero, List.push_toArray, List.append_toArray, List.nil_append, List.cons_append]
  gi_wp2_with (refine ⟨trivial, ?_⟩; gi_at_call 95; refine (callsIn_wide.2 (sThrough _ _ _ _ _ _ _)).mono ?_; rintro e w' ⟨rfl, rfl⟩)
  have bF := (((Boxed.new w 98 (.func (.func 76) #[] #[])).alloc (.cells #[.slice none 0 0] 29)).alloc (.cells #[.slice a la ca] 29)).alloc (.cells #[.slice b lb cb] 29)
  have bL := ((Boxed.new (w.alloc (.cells #[.func (.func 76) #[] #[]] 98)) 29 (.slice none 0 0)).alloc (.cells #[.slice a la ca] 29)).alloc (.cells #[.slice b lb cb] 29)
  have bA := (Boxed.new ((w.alloc (.cells #[.func (.func 76) #[] #[]] 98)).alloc (.cells #[.slice none 0 0] 29)) 29 (.slice a la ca)).alloc (.cells #[.slice b lb cb] 29)
  have bB := Boxed.new (((w.alloc (.cells #[.func (.func 76) #[] #[]] 98)).alloc (.cells #[.slice none 0 0] 29)).alloc (.cells #[.slice a la ca] 29)) 29 (.slice b lb cb)
  simp only [World.size_alloc] at bF bL bA bB
  have hB0 : Below w.heap.size w ((((w.alloc (.cells #[.func (.func 76) #[] #[]] 98)).alloc (.cells #[.slice none 0 0] 29)).alloc (.cells #[.slice a la ca] 29)).alloc (.cells #[.slice b lb cb] 29)) := ((((Below.refl _ w).alloc (Nat.le_refl _) _).alloc (by simp) _).alloc (by simp; omega) _).alloc (by simp; omega) _
  have hsz : ((((w.alloc (.cells #[.func (.func 76) #[] #[]] 98)).alloc (.cells #[.slice none 0 0] 29)).alloc (.cells #[.slice a la ca] 29)).alloc (.cells #[.slice b lb cb] 29)).heap.size = w.heap.size + 4 := by simp
  obtain ⟨W0, hW0⟩ : ∃ W0, (((w.alloc (.cells #[.func (.func 76) #[] #[]] 98)).alloc (.cells #[.slice none 0 0] 29)).alloc (.cells #[.slice a la ca] 29)).alloc (.cells #[.slice b lb cb] 29) = W0 := ⟨_, rfl⟩
  rw [hW0] at bF bL bA bB hB0 hsz ⊢
  clear hW0
  obtain ⟨i0, hi, hz0, hz1, hz2⟩ := info_parts infoA
  refine wpIn_rangeFunc_ownH rfl (by omega) (gf := 120) (lb := #[.pointer (some ⟨w.heap.size + 1 + 1, 0, none⟩), .pointer (some ⟨w.heap.size + 1 + 1 + 1, 0, none⟩)]) rfl trivial (enters_of Tryz.func120 (by kernel_rfl) rfl)
    (thr_stops _ (by omega) (w.heap.size + 1 + 1) (w.heap.size + 1 + 1 + 1) a b la lb ca cb xs ys HX.out HY.out (by omega) (by omega) w W0 hB0 (by omega) (by omega) bA.cell bB.cell H1.out H2.out) kp2_t (kp2_b (by omega)) (Below.refl _ _) (fun _ => rfl)
    (fun pre W => (∃ v, Boxed W (w.heap.size + 1) 29 v ∧ W.ownsRow w.heap.size 25 1 v (stays (fun p q => p && !q) pre).length (va (stays (fun p q => p && !q) pre)) ∧ True) ∧
      ((Boxed W w.heap.size 98 (.func (.func 76) #[] #[]) ∧ Boxed W (w.heap.size + 1 + 1) 29 (.slice a la ca)) ∧ Boxed W (w.heap.size + 1 + 1 + 1) 29 (.slice b lb cb)) ∧ Below w.heap.size w W)
    (fun _ _ _ => False)
    (OwnFrom.and (Own.from (holdsRow_own w.heap.size (w.heap.size + 1) 29 25 1 (fun pre => (stays (fun p q => p && !q) pre).length) (fun pre => va (stays (fun p q => p && !q) pre)) (fun _ _ => True)) _)
      (OwnFrom.and (OwnFrom.and (OwnFrom.and (Own.from (boxed_own _ _ (fun _ => _)) _) (Own.from (boxed_own _ _ (fun _ => _)) _)) (Own.from (boxed_own _ _ (fun _ => _)) _)) (ownFrom_below (Nat.le_refl _) (by omega))))
    (fun _ _ _ _ _ hs _ _ => hs)
    ⟨⟨_, bL, World.ownsRow_nil _ _ _ _, trivial⟩, ⟨⟨bF, bA⟩, bB⟩, hB0⟩
    (fun x a' W => ∃ Bx, w.heap.size + 3 < Bx ∧ W.heap[Bx]? = some (.cells #[.bool x.2.1, .bool x.2.2] 97 (0, 0)) ∧ a' = { tmps := #[.slice a la ca, .slice b lb cb, .func (.func 76) #[] #[], undef, undef, .pointer (some ⟨w.heap.size, 0, none⟩), .slice none 0 0, .pointer (some ⟨w.heap.size + 1, 0, none⟩), .int .u32 x.1, .pointer (some ⟨Bx, 0, none⟩), .slice a la ca, .slice b lb cb, .func (.func 120) #[] #[.pointer (some ⟨w.heap.size + 1 + 1, 0, none⟩), .pointer (some ⟨w.heap.size + 1 + 1 + 1, 0, none⟩)], .int .u32 x.1, .agg #[.bool x.2.1, .bool x.2.2], undef, undef, undef, undef, undef, undef, undef, undef], defers := [] })
    ?hAx ?assign ?body ?done ?stop
  case hAx =>
    rintro x a' s X Y row ⟨Bx, h1, h2, h3⟩ hg hrow
    refine ⟨Bx, h1, (hg.block Bx (Array.getElem?_eq_some_iff.1 h2).1 fun e => ?_).trans h2, h3⟩
    obtain ⟨_, o, ho, hc⟩ := hrow Bx e.symm
    rw [h2] at ho; cases ho; cases hc
  case assign =>
    rintro l pre x W K ⟨⟨v, hv, hrow, _⟩, ⟨⟨bF, bA⟩, bB⟩, hB⟩ hK
    have hsW : w.heap.size + 4 ≤ W.heap.size := by
      have := bB.lt
      omega
    gi_wp2
    refine hK _ _ ((KeepsOthers.alloc _ _).from _) (kp2_below kp2_r hB.size (bel1 W _)) ⟨⟨v, hv.alloc _, hrow.alloc _, trivial⟩, ⟨⟨bF.alloc _, bA.alloc _⟩, bB.alloc _⟩, hB.alloc hB.size _⟩ ⟨W.heap.size, by omega, Go.Deep.blk_alloc_new _ _, rfl⟩
  case body =>
    rintro l pre x a' W hl ⟨r, hr⟩ ⟨⟨v, hv, hrow, _⟩, ⟨⟨bF, bA⟩, bB⟩, hB⟩ ⟨Bx, hBx, bX, rfl⟩ hlt
    obtain ⟨z, p, q⟩ := x
    obtain ⟨k0, k1, _, _, _⟩ := two_cells bX undef undef
    have hlen := stays_len (fun p q => p && !q) pre
    have hsW : w.heap.size + 4 ≤ W.heap.size := by
      have := bB.lt
      omega
    have hFc := bF.cell
    have hv' := hv.alloc (.cells #[.bool p, .bool q] 97)
    have hrow' := hrow.alloc (.cells #[.bool p, .bool q] 97)
    have hLc := hv'.cell
    have HV := Lib.hid hv
    have HV' := Lib.hid hv'
    have HR := Lib.hid hrow
    have HR' := Lib.hid hrow'
    have BF := Lib.hid bF
    have BA := Lib.hid bA
    have BB := Lib.hid bB
    have HB := Lib.hid hB
    clear hv hv' hrow hrow' bF bA bB hB bX
    dsimp only
    cases p <;> cases q
    · gi_wp2_with (refine ⟨trivial, ?_⟩; gi_at_call 76; refine (CallsIn.inRound l (callsIn_wide.2 (stM _ _ _))).mono ?_; rintro e w' ⟨rfl, rfl⟩)
      refine ⟨(KeepsOthers.alloc _ _).from _, kp2_below kp2_r HB.out.size (bel1 W _), ⟨_, HV'.out, ?_, trivial⟩, ⟨⟨BF.out.alloc _, BA.out.alloc _⟩, BB.out.alloc _⟩, HB.out.alloc HB.out.size _⟩
      rw [stays_no rfl]
      exact HR'.out
    · gi_wp2_with (refine ⟨trivial, ?_⟩; gi_at_call 76; refine (CallsIn.inRound l (callsIn_wide.2 (stM _ _ _))).mono ?_; rintro e w' ⟨rfl, rfl⟩)
      refine ⟨(KeepsOthers.alloc _ _).from _, kp2_below kp2_r HB.out.size (bel1 W _), ⟨_, HV'.out, ?_, trivial⟩, ⟨⟨BF.out.alloc _, BA.out.alloc _⟩, BB.out.alloc _⟩, HB.out.alloc HB.out.size _⟩
      rw [stays_no rfl]
      exact HR'.out
    · have hn1 := news_new (W.alloc (.cells #[.bool true, .bool false] 97)) [.int .u32 z] 25
      rw [World.size_alloc] at hn1
      have HN1 := Lib.hid hn1
      clear hn1
      gi_wp2_with (first | (refine ⟨trivial, ?_⟩; gi_at_call 76; refine (CallsIn.inRound l (callsIn_wide.2 (stM _ _ _))).mono ?_; rintro e w' ⟨rfl, rfl⟩) | (gi_at_builtin; refine wpListIn_append_own _ rfl _ _ 29 rfl w.heap.size 25 i0 (.int .u32 0) 1 4 Tryz.underlying29 hi hz0 hz1 hz2 rfl (by decide) _ _ _ rfl (HR'.out.alloc _) ⟨W.heap.size + 1, 0, none⟩ 1 1 [.int .u32 z] rfl rfl HN1.out (one32 z) (by unfold maxLen; omega) (by omega) (by simp; omega) ?_; intro v' w1 hown' hgrow _; obtain ⟨g', cap', rfl⟩ := ownsRow_succ hown'; obtain ⟨hv1, hv2, hr2, hk2, hb2⟩ := HV'.out.appended (by decide) HR'.out (by simp; omega) (by omega) hown' hgrow; have hc1 := hv1.cell; have hf1 := hv1.frozen))
      have F3 := Boxed.thru (BF.out.alloc _) (by decide) HR'.out hgrow (B' := w.heap.size + 1) (by omega) (v' := .slice (some ⟨g', 0, none⟩) ((stays (fun p q => p && !q) pre).length + 1) cap')
      have A3 := Boxed.thru (BA.out.alloc _) (by decide) HR'.out hgrow (B' := w.heap.size + 1) (by omega) (v' := .slice (some ⟨g', 0, none⟩) ((stays (fun p q => p && !q) pre).length + 1) cap')
      have B3 := Boxed.thru (BB.out.alloc _) (by decide) HR'.out hgrow (B' := w.heap.size + 1) (by omega) (v' := .slice (some ⟨g', 0, none⟩) ((stays (fun p q => p && !q) pre).length + 1) cap')
      have hbel := ((Below.refl w.heap.size W).alloc (o := .cells #[.bool true, .bool false] 97) HB.out.size).trans hb2
      refine ⟨((KeepsOthers.alloc _ _).trans hk2).from _, ⟨hbel, fun u e => ?_, fun u e => ?_⟩, ⟨_, hv2, ?_, trivial⟩, ⟨⟨F3, A3⟩, B3⟩, HB.out.trans hbel⟩
      · rw [BA.out.cell] at e; rw [A3.cell]; exact e
      · rw [BB.out.cell] at e; rw [B3.cell]; exact e
      · rw [stays_yes rfl, va_snoc, List.length_append]
        exact hr2
    · gi_wp2_with (refine ⟨trivial, ?_⟩; gi_at_call 76; refine (CallsIn.inRound l (callsIn_wide.2 (stM _ _ _))).mono ?_; rintro e w' ⟨rfl, rfl⟩)
      refine ⟨(KeepsOthers.alloc _ _).from _, kp2_below kp2_r HB.out.size (bel1 W _), ⟨_, HV'.out, ?_, trivial⟩, ⟨⟨BF.out.alloc _, BA.out.alloc _⟩, BB.out.alloc _⟩, HB.out.alloc HB.out.size _⟩
      rw [stays_no rfl]
      exact HR'.out
  case done =>
    rintro D zs W hD rfl ⟨⟨v, hv, hrow, _⟩, _, hB⟩ hK
    have hLc := hv.cell
    have HV := Lib.hid hv
    have HR := Lib.hid hrow
    have HB := Lib.hid hB
    clear hv hrow hB
    gi_wp2
    refine ⟨by simp, .inl ⟨_, _, rfl, run_takeDeferred hK, ?_⟩⟩
    exact ⟨_, results_tmp rfl _ _ _, v, rfl, ownsRow_putObj HR.out _ hK rfl, HB.out.trans (belowK_b (w := w) (Nat.le_refl _) W D _ _ (by omega) hK rfl rfl)⟩
  case stop =>
    rintro D c pre W _ _ h _
    exact h.elim

theorem thr_sub (a b : List Int) : ∀ t ∈ thr a b, t.1 ∈ a ∨ t.1 ∈ b := by
  refine thr_ind (P := fun a b => ∀ t ∈ thr a b, t.1 ∈ a ∨ t.1 ∈ b) ?_ ?_ ?_ ?_ ?_ ?_ a b
  · rw [thr_nil]; simp
  · intro x a h t ht
    rw [thr_l] at ht
    rcases List.mem_cons.1 ht with rfl | ht
    · simp
    · rcases h t ht with h | h
      · exact .inl (List.mem_cons_of_mem _ h)
      · exact .inr h
  · intro y b h t ht
    rw [thr_r] at ht
    rcases List.mem_cons.1 ht with rfl | ht
    · simp
    · rcases h t ht with h | h
      · exact .inl h
      · exact .inr (List.mem_cons_of_mem _ h)
  · intro x y a b hxy h t ht
    rw [thr_lt hxy] at ht
    rcases List.mem_cons.1 ht with rfl | ht
    · simp
    · rcases h t ht with h | h
      · exact .inl (List.mem_cons_of_mem _ h)
      · exact .inr h
  · intro x y a b hxy h t ht
    rw [thr_gt hxy] at ht
    rcases List.mem_cons.1 ht with rfl | ht
    · simp
    · rcases h t ht with h | h
      · exact .inl h
      · exact .inr (List.mem_cons_of_mem _ h)
  · intro x a b h t ht
    rw [thr_eq] at ht
    rcases List.mem_cons.1 ht with rfl | ht
    · simp
    · exact (h t ht).imp (List.mem_cons_of_mem _) (List.mem_cons_of_mem _)
theorem isA_iff {l : List Int} : IsA l ↔ ∀ x ∈ l, 0 ≤ x ∧ x ≤ 4294967295 := by
  constructor
  · intro h x hx
    obtain ⟨i, hi, rfl⟩ := List.getElem_of_mem hx
    have := h i hi
    simpa [List.getD_eq_getElem?_getD, hi] using this
  · intro h i hi
    have := h l[i] (List.getElem_mem hi)
    simpa [List.getD_eq_getElem?_getD, hi] using this
theorem those_isA {p : Bool → Bool → Bool} {a b : List Int} (ha : IsA a) (hb : IsA b) : IsA (those p a b) := by
  rw [isA_iff] at ha hb ⊢
  intro x hx
  unfold those at hx
  obtain ⟨t, ht, rfl⟩ := List.mem_map.1 hx
  rcases thr_sub a b t (List.mem_filter.1 ht).1 with h | h
  · exact ha _ h
  · exact hb _ h
/-- What a row of the call's own hands back. -/
def Flat (a : Option Addr) (n c : Nat) : Prop := (a = none ∧ n = 0 ∧ c = 0) ∨ ∃ b off, a = some ⟨b, off, none⟩
def Out (w : World) (e : Ending) (w' : World) (zs : List Int) : Prop := (∃ a c, e = .returned (.slice a zs.length c) ∧ As w' a zs ∧ Flat a zs.length c) ∧ Below w.heap.size w w'
theorem out_of {w w' : World} {v : Value} {zs : List Int} (h : w'.ownsRow w.heap.size 25 1 v zs.length (va zs)) (hA : IsA zs) (hb : Below w.heap.size w w') : Out w (.returned v) w' zs := by
  refine ⟨?_, hb⟩
  rcases h.2 with ⟨rfl, h0⟩ | ⟨g, cap, cur, rfl, hB, _⟩
  · exact ⟨none, 0, by rw [h0], by rw [List.eq_nil_of_length_eq_zero h0]; exact As.nil _ _, .inl ⟨rfl, h0, rfl⟩⟩
  · exact ⟨_, cap, rfl, (AsO.of rfl h).as hA, .inr ⟨_, _, rfl⟩⟩
theorem sInter (a b : Option Addr) (la lb ca cb : Nat) (xs ys : List Int) (w : World) (hx : xs.length = la) (hy : ys.length = lb) (hla : la ≤ 400000) (hlb : lb ≤ 400000) (h1 : As w a xs) (h2 : As w b ys) :
    Calls Tryz.prog 65 #[.slice a la ca, .slice b lb cb] w fun e w' => Out w e w' (int xs ys) := by
  have H : ∀ w', Below w.heap.size w w' → Calls Tryz.prog 75 #[.slice a la ca, .slice b lb cb, .func (.func 78) #[] #[]] w' fun e w2 => Out w' e w2 (int xs ys) := fun w' hb =>
    ((callsIn_wide (n := 5)).1 (thoseI_in a b la lb ca cb xs ys w' hx hy hla hlb (h1.below hb) (h2.below hb))).mono fun e w2 ⟨v, e1, e2, e3⟩ => by subst e1; exact out_of e2 (those_isA h1.2 h2.2) e3
  have HH := Lib.hid H
  clear H h1 h2
  go_enter Tryz.func65, Tryz.ntmps65
  go_wp2_with (go_at_call 75; refine (HH.out _ (Below.refl _ _)).mono ?_; rintro e w2 ⟨⟨a', c', rfl, hA, hnil⟩, hB⟩; have HA := Lib.hid hA; have HB := Lib.hid hB; have HN := Lib.hid hnil; clear hA hB hnil)
  go_ret
  exact ⟨⟨a', c', rfl, HA.out, HN.out⟩, HB.out⟩
theorem sMinus (a b : Option Addr) (la lb ca cb : Nat) (xs ys : List Int) (w : World) (hx : xs.length = la) (hy : ys.length = lb) (hla : la ≤ 400000) (hlb : lb ≤ 400000) (h1 : As w a xs) (h2 : As w b ys) :
    Calls Tryz.prog 63 #[.slice a la ca, .slice b lb cb] w fun e w' => Out w e w' (dif xs ys) := by
  have H : ∀ w', Below w.heap.size w w' → Calls Tryz.prog 75 #[.slice a la ca, .slice b lb cb, .func (.func 76) #[] #[]] w' fun e w2 => Out w' e w2 (dif xs ys) := fun w' hb =>
    ((callsIn_wide (n := 5)).1 (thoseM_in a b la lb ca cb xs ys w' hx hy hla hlb (h1.below hb) (h2.below hb))).mono fun e w2 ⟨v, e1, e2, e3⟩ => by subst e1; exact out_of e2 (those_isA h1.2 h2.2) e3
  have HH := Lib.hid H
  clear H h1 h2
  go_enter Tryz.func63, Tryz.ntmps63
  go_wp2_with (go_at_call 75; refine (HH.out _ (Below.refl _ _)).mono ?_; rintro e w2 ⟨⟨a', c', rfl, hA, hnil⟩, hB⟩; have HA := Lib.hid hA; have HB := Lib.hid hB; have HN := Lib.hid hnil; clear hA hB hnil)
  go_ret
  exact ⟨⟨a', c', rfl, HA.out, HN.out⟩, HB.out⟩
end Go.Proofs.YtllpmepmgnnoaaaGreat
