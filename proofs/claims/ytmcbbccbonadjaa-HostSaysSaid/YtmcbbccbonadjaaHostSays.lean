/- The law HostSays: every call returns true, and its arguments read behind the call as before it. Condition: none but the row's own. -/
import Derived.Test.YtmcbbccbonadjaaW13
namespace Go.Proofs.Ytmcbbccbonadjaa.hostSays
set_option linter.unusedVariables false
open Go.ChangeShapes Go.WideShapes Go.ChangeAt Go.RowKit
open Go.ChangeMaps (open_string shut_string)

/-- What a record does to a want. -/
def stp (x : Int) (b : Bool) (r : Rc) : Bool :=
  if r.ty = 3 then decide (x ∈ r.srcs) else if r.ty = 4 then !decide (x ∈ r.srcs) else if r.ty = 5 then b || decide (x ∈ r.srcs) else b && !decide (x ∈ r.srcs)
def says (x : Int) (b : Bool) (rs : List Rc) : Bool := rs.foldl (stp x) b
theorem says_nm (x : Int) (b : Bool) (rs : List Rc) : says x b (rs.map Rc.nm) = says x b rs := by unfold says; rw [List.foldl_map]; rfl
theorem stp_no {x : Int} {b : Bool} {r : Rc} (ht : r.ty = 3 ∨ r.ty = 4 ∨ r.ty = 5 ∨ r.ty = 6) (h : keep r = false) : stp x b r = b := by
  unfold keep at h
  simp at h
  obtain ⟨⟨h1, h2⟩, h3⟩ := h
  unfold stp
  rw [if_neg h3, if_neg h2, h1]
  cases b <;> simp
theorem says_said (x : Int) (g : Int) : ∀ (rs : List Rc) (b : Bool), (∀ r ∈ rs, r.ty = 3 ∨ r.ty = 4 ∨ r.ty = 5 ∨ r.ty = 6) → says x b (said g rs) = says x b rs
  | [], b, _ => rfl
  | r :: rs, b, h => by
    have ih := says_said x g rs
    have hr := h r (List.mem_cons_self ..)
    have hh : ∀ r ∈ rs, r.ty = 3 ∨ r.ty = 4 ∨ r.ty = 5 ∨ r.ty = 6 := fun r' hr' => h r' (List.mem_cons_of_mem _ hr')
    cases hk : keep r with
    | true =>
      have e : said g (r :: rs) = ⟨r.ty, g, r.srcs, r.a, r.c⟩ :: said g rs := by simp [said, hk]
      rw [e]
      unfold says at *
      rw [List.foldl_cons, List.foldl_cons, ih _ hh]; rfl
    | false =>
      have e : said g (r :: rs) = said g rs := by simp [said, hk]
      rw [e, ih _ hh]
      unfold says
      rw [List.foldl_cons, stp_no hr hk]
theorem chg_ty (p q : Bool) (xs ys : List Int) : ∀ r ∈ chg p q xs ys, r.ty = 3 ∨ r.ty = 4 ∨ r.ty = 5 ∨ r.ty = 6 := by
  cases p <;> cases q <;> simp [chg]
theorem said_ty {g : Int} {rs : List Rc} (h : ∀ r ∈ rs, r.ty = 3 ∨ r.ty = 4 ∨ r.ty = 5 ∨ r.ty = 6) : ∀ r ∈ said g rs, r.ty = 3 ∨ r.ty = 4 ∨ r.ty = 5 ∨ r.ty = 6 := by
  intro r hr
  obtain ⟨s, hs, rfl⟩ := List.mem_map.1 hr
  exact h s (List.mem_filter.1 hs).1
theorem stp3 (x : Int) (b : Bool) (l : List Int) (g : Int) (a : Option Addr) (c : Nat) : stp x b ⟨3, g, l, a, c⟩ = decide (x ∈ l) := rfl
theorem stp4 (x : Int) (b : Bool) (l : List Int) (g : Int) (a : Option Addr) (c : Nat) : stp x b ⟨4, g, l, a, c⟩ = !decide (x ∈ l) := rfl
theorem stp5 (x : Int) (b : Bool) (l : List Int) (g : Int) (a : Option Addr) (c : Nat) : stp x b ⟨5, g, l, a, c⟩ = (b || decide (x ∈ l)) := rfl
theorem stp6 (x : Int) (b : Bool) (l : List Int) (g : Int) (a : Option Addr) (c : Nat) : stp x b ⟨6, g, l, a, c⟩ = (b && !decide (x ∈ l)) := rfl
theorem says_change {g x : Int} {e1 e2 : Bool} {xs ys : List Int} (h1 : Inc xs) (h2 : Inc ys) : says x (decide (x ∈ xs) != e1) (change g e1 xs e2 ys) = (decide (x ∈ ys) != e2) := by
  unfold change
  rw [says_said x g _ _ (chg_ty e1 e2 xs ys)]
  have d1 : decide (x ∈ dif ys xs) = (decide (x ∈ ys) && !decide (x ∈ xs)) := by rw [Bool.eq_iff_iff]; simp [dif_mem h2 h1]
  have d2 : decide (x ∈ dif xs ys) = (decide (x ∈ xs) && !decide (x ∈ ys)) := by rw [Bool.eq_iff_iff]; simp [dif_mem h1 h2]
  cases e1 <;> cases e2
  · simp only [chg, says, List.foldl_cons, List.foldl_nil, stp5, stp6, d1, d2]
    cases decide (x ∈ xs) <;> cases decide (x ∈ ys) <;> rfl
  · simp only [chg, says, List.foldl_cons, List.foldl_nil, stp4]
    cases decide (x ∈ ys) <;> rfl
  · simp only [chg, says, List.foldl_cons, List.foldl_nil, stp3]
    cases decide (x ∈ ys) <;> rfl
  · simp only [chg, says, List.foldl_cons, List.foldl_nil, stp5, stp6, d1, d2]
    cases decide (x ∈ xs) <;> cases decide (x ∈ ys) <;> rfl
theorem chg_src (p q : Bool) (xs ys : List Int) : ∀ r ∈ chg p q xs ys, r.srcs.length ≤ xs.length + ys.length := by
  have h1 := dif_len xs ys
  have h2 := dif_len ys xs
  cases p <;> cases q <;> simp only [chg, List.mem_cons, List.not_mem_nil, or_false]
  · rintro r (rfl | rfl)
    · show (dif ys xs).length ≤ _; omega
    · show (dif xs ys).length ≤ _; omega
  · rintro r rfl; show ys.length ≤ _; omega
  · rintro r rfl; show ys.length ≤ _; omega
  · rintro r (rfl | rfl)
    · show (dif xs ys).length ≤ _; omega
    · show (dif ys xs).length ≤ _; omega
theorem said_src {g : Int} {n : Nat} {rs : List Rc} (h : ∀ r ∈ rs, r.srcs.length ≤ n) : ∀ r ∈ said g rs, r.srcs.length ≤ n := by
  intro r hr
  obtain ⟨s, hs, rfl⟩ := List.mem_map.1 hr
  exact h s (List.mem_filter.1 hs).1
set_option linter.unusedSimpArgs false in
set_option maxRecDepth 100000 in
set_option maxHeartbeats 8000000 in
theorem walk (w : World) (g : Int) (f1 f2 : Flt) (x : Int) (k1 : FOk w f1 ∧ f1.srcs.length ≤ 1125899906842624) (k2 : FOk w f2 ∧ f2.srcs.length ≤ 1125899906842624) :
    Calls Try.prog 8 #[.agg #[.int .u32 g, .bool f1.ex, f1.sl, .bool f2.ex, f2.sl, .int .u32 x]] w fun e w' => e = .returned (.bool true) ∧ Below w.heap.size w w' := by
  obtain ⟨e1, xs, a, ca⟩ := f1
  obtain ⟨e2, ys, b, cb⟩ := f2
  simp only [Flt.sl] at k1 k2 ⊢
  obtain ⟨n, hn⟩ : ∃ n, xs.length = n := ⟨_, rfl⟩
  obtain ⟨m, hm⟩ : ∃ m, ys.length = m := ⟨_, rfl⟩
  rw [hn, hm]
  rw [hn] at k1
  rw [hm] at k2
  have HN := Lib.hid hn
  have HM := Lib.hid hm
  have hl1 := k1.2
  have hl2 := k2.2
  have hb1 := bel1 w (.cells #[.int .u32 g, .bool e1, .slice a n ca, .bool e2, .slice b m cb, .int .u32 x] 71)
  have hs0 : (w.alloc (.cells #[.int .u32 g, .bool e1, .slice a n ca, .bool e2, .slice b m cb, .int .u32 x] 71)).heap.size = w.heap.size + 1 := World.size_alloc _ _
  have p := filt_new (w.alloc (.cells #[.int .u32 g, .bool e1, .slice a n ca, .bool e2, .slice b m cb, .int .u32 x] 71)) (.bool e1) (.slice a n ca)
  have hb2 := bel1 (w.alloc (.cells #[.int .u32 g, .bool e1, .slice a n ca, .bool e2, .slice b m cb, .int .u32 x] 71)) (.cells #[.bool e1, .slice a n ca] 25)
  have q := filt_new ((w.alloc (.cells #[.int .u32 g, .bool e1, .slice a n ca, .bool e2, .slice b m cb, .int .u32 x] 71)).alloc (.cells #[.bool e1, .slice a n ca] 25)) (.bool e2) (.slice b m cb)
  have hb3 := bel1 ((w.alloc (.cells #[.int .u32 g, .bool e1, .slice a n ca, .bool e2, .slice b m cb, .int .u32 x] 71)).alloc (.cells #[.bool e1, .slice a n ca] 25)) (.cells #[.bool e2, .slice b m cb] 25)
  rw [World.size_alloc, World.size_alloc] at q
  rw [World.size_alloc] at p
  have C0 := Lib.hid ((hb3.cell (cell_lt p.1)).trans p.1)
  have C1 := Lib.hid ((hb3.cell (cell_lt p.2)).trans p.2)
  have C2 := Lib.hid q.1
  have C3 := Lib.hid q.2
  have hbb := (hb1.trans (hb2.mono hb1.size)).trans (hb3.mono (hb1.trans (hb2.mono hb1.size)).size)
  have BB := Lib.hid hbb
  have SA := Lib.hid (k1.1.below hbb)
  have SB := Lib.hid (k2.1.below hbb)
  clear hn hm k1 k2 hb1 hb2 hb3 p q hbb hs0
  go_enter Try.func8, Try.ntmps8
  go_wp2_with fail
  generalize ((w.alloc (.cells #[.int .u32 g, .bool e1, .slice a n ca, .bool e2, .slice b m cb, .int .u32 x] 71)).alloc (.cells #[.bool e1, .slice a n ca] 25)).alloc (.cells #[.bool e2, .slice b m cb] 25) = w2 at *
  refine (hShown _).mono ?_
  rintro e w3 ⟨rfl, hb⟩
  have c0 := C0.out
  have c1 := C1.out
  have c2 := C2.out
  have c3 := C3.out
  clear C0 C1 C2 C3
  have BB := Lib.hid (BB.out.trans (hb.mono BB.out.size))
  have SA := Lib.hid (SA.out.below hb)
  have SB := Lib.hid (SB.out.below hb)
  replace c0 := (hb.cell (cell_lt c0)).trans c0
  replace c1 := (hb.cell (cell_lt c1)).trans c1
  replace c2 := (hb.cell (cell_lt c2)).trans c2
  replace c3 := (hb.cell (cell_lt c3)).trans c3
  clear hb
  by_cases q : n + m ≤ 100
  · have hq : decide ((100 : Int) < (n : Int) + (m : Int)) = false := decide_eq_false (by omega)
    go_wp2_with fail
    refine (rRight a n ca xs _ HN.out (by omega) SA.out.1).mono ?_
    rintro e w4 ⟨rfl, hb⟩
    have BB := Lib.hid (BB.out.trans (hb.mono BB.out.size))
    have SA := Lib.hid (SA.out.below hb)
    have SB := Lib.hid (SB.out.below hb)
    replace c0 := (hb.cell (cell_lt c0)).trans c0
    replace c1 := (hb.cell (cell_lt c1)).trans c1
    replace c2 := (hb.cell (cell_lt c2)).trans c2
    replace c3 := (hb.cell (cell_lt c3)).trans c3
    clear hb
    by_cases i1 : Inc xs
    · rw [decide_eq_true i1]
      have I1 := Lib.hid i1
      clear i1
      go_wp2_with fail
      refine (rRight b m cb ys _ HM.out (by omega) SB.out.1).mono ?_
      rintro e w5 ⟨rfl, hb⟩
      have BB := Lib.hid (BB.out.trans (hb.mono BB.out.size))
      have SA := Lib.hid (SA.out.below hb)
      have SB := Lib.hid (SB.out.below hb)
      replace c0 := (hb.cell (cell_lt c0)).trans c0
      replace c1 := (hb.cell (cell_lt c1)).trans c1
      replace c2 := (hb.cell (cell_lt c2)).trans c2
      replace c3 := (hb.cell (cell_lt c3)).trans c3
      clear hb
      by_cases i2 : Inc ys
      · rw [decide_eq_true i2]
        have I2 := Lib.hid i2
        clear i2 hq
        go_wp2_with fail
        refine (hChange g e1 e2 a b n m ca cb xs ys _ HN.out HM.out (by omega) (by omega) SA.out.1 SB.out.1 SB.out.2).mono ?_
        rintro e w6 ⟨⟨a6, c6, rs, rfl, m6, k6, n6⟩, hb⟩
        have M6 := Lib.hid m6
        have K6 := Lib.hid k6
        clear m6 k6 n6
        have BB := Lib.hid (BB.out.trans (hb.mono BB.out.size))
        have SA := Lib.hid (SA.out.below hb)
        have SB := Lib.hid (SB.out.below hb)
        replace c0 := (hb.cell (cell_lt c0)).trans c0
        replace c1 := (hb.cell (cell_lt c1)).trans c1
        replace c2 := (hb.cell (cell_lt c2)).trans c2
        replace c3 := (hb.cell (cell_lt c3)).trans c3
        clear hb
        go_wp2_with fail
        refine (rWants e1 a n ca xs x _ HN.out (by omega) SA.out.1).mono ?_
        rintro e w7 ⟨rfl, hb⟩
        have BB := Lib.hid (BB.out.trans (hb.mono BB.out.size))
        have SA := Lib.hid (SA.out.below hb)
        have SB := Lib.hid (SB.out.below hb)
        have K6 := Lib.hid (K6.out.below hb)
        replace c0 := (hb.cell (cell_lt c0)).trans c0
        replace c1 := (hb.cell (cell_lt c1)).trans c1
        replace c2 := (hb.cell (cell_lt c2)).trans c2
        replace c3 := (hb.cell (cell_lt c3)).trans c3
        clear hb
        have hty : ∀ r ∈ rs, r.ty = 3 ∨ r.ty = 4 ∨ r.ty = 5 ∨ r.ty = 6 := fun r hr => by
          have h1 : r.nm ∈ (change g e1 xs e2 ys).map Rc.nm := M6.out ▸ List.mem_map.2 ⟨r, hr, rfl⟩
          obtain ⟨s, hs, e⟩ := List.mem_map.1 h1
          have h2 := said_ty (chg_ty e1 e2 xs ys) s hs
          rwa [show s.ty = r.ty from congrArg (fun z => z.ty) e] at h2
        have hfin : says x (decide (x ∈ xs) != e1) rs = (decide (x ∈ ys) != e2) := by
          rw [← says_nm, M6.out, says_nm, says_change I1.out I2.out]
        have hle : rs.length ≤ 2 := by
          have h1 := congrArg List.length M6.out
          have h2 := said_len g (chg e1 e2 xs ys)
          have h3 := chg_len e1 e2 xs ys
          simp only [List.length_map, change] at h1
          rw [h1]; unfold said at *; rw [List.length_map] at *; omega
        have hsr : ∀ r ∈ rs, r.srcs.length ≤ 200000 := fun r hr => by
          have h1 : r.nm ∈ (change g e1 xs e2 ys).map Rc.nm := M6.out ▸ List.mem_map.2 ⟨r, hr, rfl⟩
          obtain ⟨s, hs, e⟩ := List.mem_map.1 h1
          have h2 := said_src (chg_src e1 e2 xs ys) s hs
          rw [show s.srcs = r.srcs from congrArg (fun z => z.srcs) e] at h2
          have := HN.out; have := HM.out; omega
        have HTY := Lib.hid hty
        have HFI := Lib.hid hfin
        have HSR := Lib.hid hsr
        obtain ⟨nr, hnr⟩ : ∃ nr, rs.length = nr := ⟨_, rfl⟩
        rw [hnr] at hle ⊢
        have HNR := Lib.hid hnr
        obtain ⟨b0, hb0⟩ : ∃ b0, (decide (x ∈ xs) != e1) = b0 := ⟨_, rfl⟩
        rw [hb0] at HFI ⊢
        clear hty hfin hsr hnr hb0
        go_wp2_with fail
        go_loopw [9, 10] (fun v9 v10 wr => ∃ k : Nat, v9 = .bool (says x b0 (rs.take k)) ∧ v10 = .int .i64 (k : Int) ∧ k ≤ nr ∧ wr = w7) (fun _ v _ => nr - (intOf v).toNat)
        case atStart => exact ⟨0, rfl, rfl, by omega, rfl⟩
        case round =>
          obtain ⟨k, rfl, rfl, hk, hw⟩ := hrel
          replace hw := hw.symm
          subst hw
          by_cases hlt : k < nr
          · obtain ⟨bb, off, rfl, hc⟩ := K6.out.at (k := k) (by rw [HNR.out]; exact hlt)
            obtain ⟨⟨ty, gr, srcs, fa, fc⟩, hfk⟩ : ∃ s, rs[k]? = some s := ⟨_, List.getElem?_eq_getElem (by rw [HNR.out]; exact hlt)⟩
            obtain ⟨⟨d0, d1, d2⟩, hfo⟩ := hc k _ hfk
            simp only [Rc.sl] at d0 d1 d2
            have hsl := HSR.out _ (List.mem_of_getElem? hfk)
            have ht := HTY.out _ (List.mem_of_getElem? hfk)
            simp only [] at hsl ht
            have HS1 := Lib.hid (show says x b0 (rs.take (k + 1)) = stp x (says x b0 (rs.take k)) ⟨ty, gr, srcs, fa, fc⟩ by rw [takeS hfk]; unfold says; rw [List.foldl_append]; rfl)
            have HFO := Lib.hid hfo.1
            simp only [] at HFO
            have hkz : (k : Int) < (nr : Int) := by omega
            obtain ⟨bv, hbv⟩ : ∃ bv, says x b0 (rs.take k) = bv := ⟨_, rfl⟩
            rw [hbv] at HS1 ⊢
            clear hc hfk hfo hbv
            go_wp2_with fail
            refine (rHas fa srcs.length fc srcs x _ rfl (by omega) HFO.out).mono ?_
            rintro e w8 ⟨rfl, hw8⟩
            subst hw8
            obtain ⟨bi, hbi⟩ : ∃ bi, decide (x ∈ srcs) = bi := ⟨_, rfl⟩
            rw [hbi]
            have HBI := Lib.hid hbi
            clear hbi
            rcases ht with rfl | rfl | rfl | rfl
            all_goals
              cases bv
              all_goals
                go_wp2_with fail
                go_roundw
                case rel => exact ⟨k + 1, by rw [HS1.out]; simp [stp, HBI.out], by go_num, by omega, by first | rfl | trivial⟩
                case measure => simp [intOf]; omega
          · obtain rfl : k = nr := by omega
            have htk : rs.take k = rs := List.take_of_length_le (by rw [HNR.out]; exact Nat.le_refl _)
            rw [htk, HFI.out]
            have hle' : (k : Int) ≤ 2 := by omega
            obtain ⟨bz, hbz⟩ : ∃ bz, (decide (x ∈ ys) != e2) = bz := ⟨_, rfl⟩
            have HZ := Lib.hid hbz
            rw [hbz]
            clear htk hbz
            go_wp2_with fail
            refine (rWants e2 b m cb ys x _ HM.out (by omega) SB.out.1).mono ?_
            rintro e w8 ⟨rfl, hb⟩
            rw [HZ.out]
            have BB := Lib.hid (BB.out.trans (hb.mono BB.out.size))
            clear hb
            cases bz
            all_goals
              go_wp2_with fail
              go_ret
              exact ⟨rfl, BB.out⟩
      · rw [decide_eq_false i2]
        clear i2
        go_wp2_with fail
        go_ret
        exact ⟨rfl, BB.out⟩
    · rw [decide_eq_false i1]
      clear i1
      go_wp2_with fail
      go_ret
      exact ⟨rfl, BB.out⟩
  · have hq : (100 : Int) < (n : Int) + (m : Int) := by omega
    go_wp2_with fail
    go_ret
    exact ⟨rfl, BB.out⟩

set_option maxRecDepth 100000 in
theorem contract (H : Type) (enc : TypeId × Value → H) (W : World) (base : Nat) (args : Array Value) (ds gs : List (DataW H)) (before : List MemPlace)
    (hval : ∀ (j : Nat) t v, Try.f8.params[j]? = some t → args[j]? = some v → Value.okWide Try.prog W .any base t v)
    (hW : DataW.Whole enc Try.prog Try.f8.params.toList Rows.hostSaysSpec.vars false W args.toList ds gs before) (hsz : (DataW.weightsEach Try.prog (Try.f8.params.toList ++ Rows.hostSaysSpec.plain.varTypes Try.prog) (ds ++ gs)).all (· ≤ reachBytes) = true) :
    Calls Try.prog 8 args W fun e W' => ∃ v, e = .returned v ∧ Rows.hostSaysSpec.post enc Try.prog Try.f8 false true false false W args v W' := by
  have hW' := hW
  obtain ⟨p, q, hA0, hV, rfl, hfz, hnd⟩ := hW
  have hA : DataW.TrodAll enc Try.prog W 0 (fun _ => true) true Try.f8.params.toList args.toList ds p := hA0
  rw [Try.params8] at hA hval
  obtain ⟨v0, vs0, d0, ds0, p0, q0, hargs, rfl, rfl, h0, r0⟩ := trodAll_cons hA
  obtain ⟨rfl, rfl, rfl⟩ := trodAll_nil r0
  obtain rfl : args = #[v0] := by cases args; simp_all
  obtain ⟨rfl, rfl⟩ := trodVars_none hV
  have k0 := h0
  have lt0 : ∀ x ∈ p0, x.block < W.heap.size := by obtain ⟨m, hm⟩ := k0; exact DataW.trod_lt m _ _ _ hm
  obtain ⟨g0, f0, u0, x0, rfl, y0, z0⟩ := open_says (hval 0 71 v0 rfl rfl) h0 (fun x hx => by simpa using List.all_eq_true.1 hsz _ (DataW.weights_mem_each (j := 0) rfl rfl x hx))
  clear hA0
  refine (walk W g0 f0 u0 x0 y0 z0).mono fun e W' ⟨he, bel⟩ => ?_
  subst he
  exact ⟨_, rfl, _, _, _, [], _, [], hW', trodAll_mk1 (shut_bool Try.underlying4 _), (trodAll_cons_mk (Below.trod laidOut (by kernel_rfl) (of_decide_eq_true (by kernel_rfl)) k0 bel lt0) trodAll_mk0), rfl, bel.frame _, fun h => by cases h⟩

set_option maxRecDepth 100000 in
theorem lifted (os : Os) (started : os.Started) (H : Type) (enc : TypeId × Value → H) :
    ReturnsInHanded {} Try.checked os 8 .any (Rows.hostSaysSpec.pre6 enc Try.prog Try.f8 Rows.hostSaysRow.domain false) (Rows.hostSaysSpec.post enc Try.prog Try.f8 false true false false) := by
  refine returnsInHanded_of_change_sized (C := Try.checked) own started (by kernel_rfl) Try.func8
    (ChangeSpec.witness6 (enc := enc) (C := Try.checked) false ⟨#[], #[(.agg #[.int .u32 0, .bool false, .slice none 0 0, .bool false, .slice none 0 0, .int .u32 0])], []⟩ 8 (by kernel_rfl) (by kernel_rfl) (by kernel_rfl) (by kernel_rfl)) ?_
  intro W base args ds gs before hval hW hcnd hsz _
  exact contract H enc W base args ds gs before hval hW hsz
theorem said : Rows.HostSaysSaid :=
  OpenClaim.holds_of_wide 8 Try.f8 rfl rfl rfl rfl rfl rfl rfl ⟨rfl, rfl, rfl, rfl, rfl⟩ rfl rfl rfl rfl rfl (by kernel_rfl) Try.func8 (by kernel_rfl)
    (of_decide_eq_true (by kernel_rfl)) (by unfold Func.isWrapper; first | (rw [if_pos (by decide +kernel)]; kernel_rfl) | (rw [if_neg (by decide +kernel)]; exact ⟨rfl, rfl⟩))
    (fun os started H enc _ => lifted os started H enc)
#print axioms said
end Go.Proofs.Ytmcbbccbonadjaa.hostSays
