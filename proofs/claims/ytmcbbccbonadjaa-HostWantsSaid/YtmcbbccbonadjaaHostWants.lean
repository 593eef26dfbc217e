/- The law HostWants: every call returns true, and its arguments read behind the call as before it. Condition: none but the row's own. -/
import Derived.Test.YtmcbbccbonadjaaW13
namespace Go.Proofs.Ytmcbbccbonadjaa.hostWants
set_option linter.unusedVariables false
open Go.ChangeShapes Go.WideShapes Go.ChangeAt Go.RowKit
open Go.ChangeMaps (open_string shut_string)

set_option linter.unusedSimpArgs false in
set_option maxRecDepth 100000 in
set_option maxHeartbeats 8000000 in
theorem walk (w : World) (a : Option Addr) (c : Nat) (ss : List Sk) (g : Int) (b : Option Addr) (cb : Nat) (ls : List Int) (x : Int) (hin : HIn w a ss c) (hg : 0 ≤ g ∧ g ≤ 4294967295) (hL : As w b ls) (hm0 : List.length ls ≤ 1125899906842624) (hnb : b = none → cb = 0) :
    Calls Try.prog 7 #[.agg #[.slice a (List.length ss) c, .int .u32 g, .slice b (List.length ls) cb, .int .u32 x]] w fun e w' => e = .returned (.bool true) ∧ Below w.heap.size w w' := by
  obtain ⟨n, hn⟩ : ∃ n, ss.length = n := ⟨_, rfl⟩
  obtain ⟨m, hm⟩ : ∃ m, ls.length = m := ⟨_, rfl⟩
  obtain ⟨hS, hn0, hsl, hni, hnc⟩ := hin
  rw [hn] at hn0 hnc ⊢
  rw [hm] at hm0 ⊢
  have HX := Lib.hid hn
  have HY := Lib.hid hm
  have HSL := Lib.hid hsl
  have hb1 := bel1 w (.cells #[.slice a n c, .int .u32 g, .slice b m cb, .int .u32 x] 65)
  have hb2 := bel1 (w.alloc (.cells #[.slice a n c, .int .u32 g, .slice b m cb, .int .u32 x] 65)) (.cells #[.slice a n c] 36)
  have p := host_new (w.alloc (.cells #[.slice a n c, .int .u32 g, .slice b m cb, .int .u32 x] 65)) (.slice a n c)
  rw [World.size_alloc] at p
  have C0 := Lib.hid p
  have hbb := hb1.trans (hb2.mono hb1.size)
  have BB := Lib.hid hbb
  have SS := Lib.hid (hS.below hbb)
  have SL := Lib.hid (hL.below hbb)
  clear hn hm hS hsl hL hb1 hb2 p hbb
  go_enter Try.func7, Try.ntmps7
  go_wp2_with fail
  generalize (w.alloc (.cells #[.slice a n c, .int .u32 g, .slice b m cb, .int .u32 x] 65)).alloc (.cells #[.slice a n c] 36) = w1 at *
  have c0 := C0.out
  clear C0
  refine (hShown _).mono ?_
  rintro e w101 ⟨rfl, hb⟩
  have BB := Lib.hid (BB.out.trans (hb.mono BB.out.size))
  have SS := Lib.hid (SS.out.below hb)
  have SL := Lib.hid (SL.out.below hb)
  replace c0 := (hb.cell (cell_lt c0)).trans c0
  clear hb
  go_wp2_with fail
  refine (rFewH a n c ss _ HX.out hn0 HSL.out SS.out).mono ?_
  rintro e w102 ⟨rfl, hb⟩
  have BB := Lib.hid (BB.out.trans (hb.mono BB.out.size))
  have SS := Lib.hid (SS.out.below hb)
  have SL := Lib.hid (SL.out.below hb)
  replace c0 := (hb.cell (cell_lt c0)).trans c0
  clear hb
  by_cases q1 : ss.length + fl ss ≤ 600
  · rw [decide_eq_true q1]
    have HQ1 := Lib.hid q1
    clear q1
    go_wp2_with fail
    refine (rRightH a n c ss _ HX.out hn0 (fun s hs => by have h1 := fl_mem hs; have h2 := HQ1.out; omega) SS.out).mono ?_
    rintro e w103 ⟨rfl, hb⟩
    have BB := Lib.hid (BB.out.trans (hb.mono BB.out.size))
    have SS := Lib.hid (SS.out.below hb)
    have SL := Lib.hid (SL.out.below hb)
    replace c0 := (hb.cell (cell_lt c0)).trans c0
    clear hb
    by_cases q2 : okH ss
    · rw [decide_eq_true q2]
      have HOK := Lib.hid q2
      have HFW := Lib.hid (okH_few q2)
      clear q2
      by_cases q3 : m ≤ 64
      · have q3' : decide ((64 : Int) < (m : Int)) = false := decide_eq_false (by omega)
        by_cases q4 : g = 0
        · have q4' : (g == 0) = true := by simpa using q4
          clear q4
          go_wp2_with fail
          go_ret
          exact ⟨rfl, BB.out⟩
        · have q4' : (g == 0) = false := by simpa using q4
          have HG0 := Lib.hid q4
          clear q4
          go_wp2_with fail
          go_loopw [8, 9] (fun v8 v9 wr => ∃ k : Nat, v8 = .bool ((ss.take k).any (fun s => (s.g == g) && wf x s.f)) ∧ v9 = .int .i64 (k : Int) ∧ k ≤ n ∧ Below w103.heap.size w103 wr) (fun _ v _ => n - (intOf v).toNat)
          case atStart => exact ⟨0, by simp, rfl, by omega, Below.refl _ _⟩
          case round =>
            obtain ⟨k, rfl, rfl, hk, hbw⟩ := hrel
            have BW := Lib.hid hbw
            have d0 := (hbw.cell (cell_lt c0)).trans c0
            clear hbw
            by_cases hlt : k < n
            · obtain ⟨bb, off, rfl, hc⟩ := SS.out.at (k := k) (by rw [HX.out]; exact hlt)
              obtain ⟨⟨id, gr, ⟨ex, srcs, fa, fc⟩⟩, hfk⟩ : ∃ s, ss[k]? = some s := ⟨_, List.getElem?_eq_getElem (by rw [HX.out]; exact hlt)⟩
              obtain ⟨⟨e0, e1, e2, e3⟩, hfo, -⟩ := (hc k _ hfk).below BW.out
              simp only [Flt.sl] at e0 e1 e2 e3 hfo
              have hs : srcs.length ≤ 400 := HFW.out.2 _ (List.mem_of_getElem? hfk)
              have HS := Lib.hid (any_succS hfk (fun s => (s.g == g) && wf x s.f))
              have HFO := Lib.hid hfo
              have hkz : (k : Int) < (n : Int) := by omega
              obtain ⟨bv, hbv⟩ : ∃ bv, (ss.take k).any (fun s => (s.g == g) && wf x s.f) = bv := ⟨_, rfl⟩
              rw [hbv] at HS ⊢
              clear hc hfk hfo hbv
              cases bv
              · by_cases hg1 : gr = g
                · subst hg1
                  have HS2 : Hid ((ss.take (k + 1)).any (fun s => (s.g == gr) && wf x s.f) = (decide (x ∈ srcs) != ex)) := Lib.hid (by rw [HS.out]; simp [wf])
                  go_wp2_with fail
                  refine (rWants ex fa srcs.length fc srcs x _ rfl (by omega) HFO.out.1).mono ?_
                  rintro e w2 ⟨rfl, hb⟩
                  have BW := Lib.hid (BW.out.trans (hb.mono BW.out.size))
                  clear hb d0 e0 e1 e2 e3
                  go_wp2_with fail
                  go_roundw
                  case rel => exact ⟨k + 1, by rw [HS2.out], by go_num, by omega, BW.out⟩
                  case measure => simp [intOf]; omega
                · have hg2 : (gr == g) = false := by simpa using hg1
                  have HS2 : Hid ((ss.take (k + 1)).any (fun s => (s.g == g) && wf x s.f) = false) := Lib.hid (by rw [HS.out]; simp [hg2])
                  clear hg1
                  go_wp2_with fail
                  go_roundw
                  case rel => exact ⟨k + 1, by rw [HS2.out], by go_num, by omega, BW.out⟩
                  case measure => simp [intOf]; omega
              · have HS2 : Hid ((ss.take (k + 1)).any (fun s => (s.g == g) && wf x s.f) = true) := Lib.hid (by rw [HS.out]; simp)
                go_wp2_with fail
                go_roundw
                case rel => exact ⟨k + 1, by rw [HS2.out], by go_num, by omega, BW.out⟩
                case measure => simp [intOf]; omega
            · obtain rfl : k = n := by omega
              have htk : ss.take k = ss := List.take_of_length_le (by rw [HX.out]; exact Nat.le_refl _)
              have BB := Lib.hid (BB.out.trans (BW.out.mono BB.out.size))
              have SS := Lib.hid (SS.out.below BW.out)
              have SL := Lib.hid (SL.out.below BW.out)
              have c0 := d0
              clear d0
              rw [htk]
              have hany := wants_any HOK.out g x
              have hinc := wants_inc HOK.out g
              have hll := flt_len (ofG_few (g := g) HFW.out)
              obtain ⟨⟨p1, l1⟩, hw1⟩ : ∃ p, wants g ss = p := ⟨_, rfl⟩
              rw [show flt (ofG g ss) = (p1, l1) from hw1] at hll
              replace hll : l1.length ≤ 160000 := hll
              rw [hw1] at hany hinc
              replace hinc : Inc l1 := hinc
              obtain ⟨one, hone⟩ : ∃ one, ss.any (fun s => (s.g == g) && wf x s.f) = one := ⟨_, rfl⟩
              rw [hone] at hany ⊢
              have HANY : Hid ((decide (x ∈ l1) != p1) = one) := Lib.hid hany
              have HINC := Lib.hid hinc
              have HW1 := Lib.hid hw1
              have HDEC := Lib.hid (wantd_dec hinc (p1 := p1) ls x)
              rw [hany] at HDEC
              clear hany hinc hw1 hone htk
              go_wp2_with fail
              refine (hWants a k c ss g _ HX.out HFW.out SS.out).mono ?_
              rintro e w104 ⟨⟨a5, c5, rfl, hA5, hf5⟩, hb⟩
              have BB := Lib.hid (BB.out.trans (hb.mono BB.out.size))
              have SS := Lib.hid (SS.out.below hb)
              have SL := Lib.hid (SL.out.below hb)
              replace c0 := (hb.cell (cell_lt c0)).trans c0
              clear hb
              have HA5 := Lib.hid hA5
              clear hA5 hf5
              rw [HW1.out] at HA5 ⊢
              simp only [] at HA5 ⊢
              have hbn := bel1 w104 (.cells #[.bool p1, .slice a5 l1.length c5] 25)
              obtain ⟨f0, f1⟩ := filt_new w104 (.bool p1) (.slice a5 l1.length c5)
              have SL := Lib.hid (SL.out.below hbn)
              have SS := Lib.hid (SS.out.below hbn)
              have HA5 := Lib.hid (HA5.out.below hbn)
              have BB := Lib.hid (BB.out.trans (hbn.mono BB.out.size))
              replace c0 := (hbn.cell (cell_lt c0)).trans c0
              clear hbn
              go_wp2_with fail
              generalize w104.alloc (.cells #[.bool p1, .slice a5 l1.length c5] 25) = wf1 at *
              refine (hAnswer a k c ss 17 3 0 g 0 0 false b m cb ls (.slice none 0 0) _ HX.out HFW.out SS.out HY.out (by omega) SL.out hg).mono ?_
              rintro e w105 ⟨⟨b6, d6, rs, rfl, m6, k6, n6⟩, hb⟩
              have BB := Lib.hid (BB.out.trans (hb.mono BB.out.size))
              have SS := Lib.hid (SS.out.below hb)
              have SL := Lib.hid (SL.out.below hb)
              have HA5 := Lib.hid (HA5.out.below hb)
              replace c0 := (hb.cell (cell_lt c0)).trans c0
              replace f0 := (hb.cell (cell_lt f0)).trans f0
              replace f1 := (hb.cell (cell_lt f1)).trans f1
              clear hb
              have M6 := Lib.hid m6
              have K6 := Lib.hid k6
              clear m6 k6 n6
              go_wp2_with fail
              refine (rWants p1 a5 l1.length c5 l1 x _ rfl (by omega) HA5.out).mono ?_
              rintro e w106 ⟨rfl, hb⟩
              have BB := Lib.hid (BB.out.trans (hb.mono BB.out.size))
              have SS := Lib.hid (SS.out.below hb)
              have SL := Lib.hid (SL.out.below hb)
              have HA5 := Lib.hid (HA5.out.below hb)
              have K6 := Lib.hid (K6.out.below hb)
              replace c0 := (hb.cell (cell_lt c0)).trans c0
              replace f0 := (hb.cell (cell_lt f0)).trans f0
              replace f1 := (hb.cell (cell_lt f1)).trans f1
              clear hb
              rw [HANY.out]
              have hrl := congrArg List.length M6.out
              rw [List.length_map, List.length_map] at hrl
              rcases ls with _ | ⟨x0, ls⟩
              · obtain rfl : m = 0 := by simpa using HY.out.symm
                have hle : rs.length ≤ 1 := by rw [hrl]; unfold answer; rw [if_pos rfl, if_neg HG0.out, if_pos rfl]; have := tell_len ss [g]; simpa using this
                obtain ⟨nr, hnr⟩ : ∃ nr, rs.length = nr := ⟨_, rfl⟩
                rw [hnr] at hle ⊢
                have hle1 : decide ((1 : Int) < (nr : Int)) = false := decide_eq_false (by omega)
                clear hnr hrl hle
                cases one
                all_goals
                  go_wp2_with fail
                  go_ret
                  exact ⟨rfl, BB.out⟩
              · obtain ⟨ls', hls⟩ : ∃ ls', x0 :: ls = ls' := ⟨_, rfl⟩
                have hls0 : ls' ≠ [] := by rw [← hls]; simp
                rw [hls] at HY SL HDEC M6 hrl
                have hm1 : ((m : Int) == 0) = false := beq_eq_false_iff_ne.2 (by have := HY.out; have := List.length_pos_iff.2 hls0; omega)
                clear hls
                have hans : answer ss 17 g ls' = if wantd (p1, l1) (mk ls') = [] then [] else [⟨1, g, wantd (p1, l1) (mk ls'), none, 0⟩] := by unfold answer; rw [if_pos rfl, if_neg HG0.out, if_neg hls0, HW1.out]
                rw [hans] at M6 hrl
                obtain ⟨wl, hwl⟩ : ∃ wl, wantd (p1, l1) (mk ls') = wl := ⟨_, rfl⟩
                have hwll : wl.length ≤ 1000 := by rw [← hwl]; have h1 := wantd_len (p1, l1) (mk ls'); have h2 := mk_len ls'; have h3 := HY.out; omega
                rw [hwl] at M6 HDEC hrl
                clear hans hwl
                obtain ⟨inl, hinl⟩ : ∃ inl, decide (x ∈ ls') = inl := ⟨_, rfl⟩
                rw [hinl] at HDEC
                have HINL := Lib.hid hinl
                clear hinl
                rcases wl with _ | ⟨x1, wl⟩
                · rw [if_pos rfl] at M6 hrl
                  simp only [List.length_nil] at hrl
                  have hno : (one && inl) = false := by rw [← HDEC.out]; simp
                  rw [hrl]
                  clear hrl hls0
                  cases one
                  all_goals cases inl
                  all_goals first
                    | (exfalso; cases hno; done)
                    | (go_wp2_with fail
                       refine (rHas b m cb ls' x _ HY.out (by omega) SL.out).mono ?_
                       rintro e wz ⟨rfl, hw⟩
                       subst hw
                       rw [HINL.out]
                       go_wp2_with fail
                       go_ret
                       exact ⟨rfl, BB.out⟩)
                · rw [if_neg (by simp)] at M6 hrl
                  simp only [List.length_cons, List.length_nil] at hrl
                  obtain ⟨b0, off, rfl, hc⟩ := K6.out.at (k := 0) (by omega)
                  obtain ⟨r, hr⟩ : ∃ r, rs[0]? = some r := ⟨_, List.getElem?_eq_getElem (by omega)⟩
                  have hrc := hc 0 r hr
                  rw [Nat.zero_mul, Nat.add_zero] at hrc
                  have hrn : r.nm = (⟨1, g, x1 :: wl, none, 0⟩ : Rc) := by
                    have := congrArg (fun l : List Rc => l[0]?) M6.out
                    simp [hr] at this
                    exact this
                  obtain ⟨rt, rg, rsr, ra, rc⟩ := r
                  have q1 : rt = 1 := congrArg (fun z => z.ty) hrn
                  have q2 : rg = g := congrArg (fun z => z.g) hrn
                  have q3 : rsr = x1 :: wl := congrArg (fun z => z.srcs) hrn
                  subst q1 q2 q3
                  obtain ⟨⟨r0, r1, r2⟩, hro, -⟩ := hrc
                  simp only [Rc.sl] at r0 r1 r2 hro
                  have HRO := Lib.hid hro
                  obtain ⟨wl', hwl'⟩ : ∃ wl', x1 :: wl = wl' := ⟨_, rfl⟩
                  rw [hwl'] at r2 HRO HDEC hwll
                  have hg3 : (rg == rg) = true := by simp
                  rw [hrl]
                  clear hrl hc hr hrn hro hwl' hls0
                  cases one
                  · have hd : Hid (decide (x ∈ wl') = false) := Lib.hid (by rw [HDEC.out]; rfl)
                    go_wp2_with fail
                    refine (rHas ra wl'.length rc wl' x _ rfl (by omega) HRO.out).mono ?_
                    rintro e wz ⟨rfl, hw⟩
                    subst hw
                    rw [hd.out]
                    go_wp2_with fail
                    go_ret
                    exact ⟨rfl, BB.out⟩
                  · have hd : Hid (decide (x ∈ wl') = inl) := Lib.hid (by rw [HDEC.out]; rfl)
                    go_wp2_with fail
                    refine (rHas ra wl'.length rc wl' x _ rfl (by omega) HRO.out).mono ?_
                    rintro e wz ⟨rfl, hw⟩
                    subst hw
                    rw [hd.out]
                    go_wp2_with fail
                    refine (rHas b m cb ls' x _ HY.out (by omega) SL.out).mono ?_
                    rintro e wz ⟨rfl, hw⟩
                    subst hw
                    rw [HINL.out]
                    cases inl
                    all_goals
                      go_wp2_with fail
                      go_ret
                      exact ⟨rfl, BB.out⟩
      · have q3' : (64 : Int) < (m : Int) := by omega
        go_wp2_with fail
        go_ret
        exact ⟨rfl, BB.out⟩
    · rw [decide_eq_false q2]
      clear q2
      go_wp2_with fail
      go_ret
      exact ⟨rfl, BB.out⟩
  · rw [decide_eq_false q1]
    clear q1
    go_wp2_with fail
    go_ret
    exact ⟨rfl, BB.out⟩

set_option maxRecDepth 100000 in
theorem contract (H : Type) (enc : TypeId × Value → H) (W : World) (base : Nat) (args : Array Value) (ds gs : List (DataW H)) (before : List MemPlace)
    (hval : ∀ (j : Nat) t v, Try.f7.params[j]? = some t → args[j]? = some v → Value.okWide Try.prog W .any base t v)
    (hW : DataW.Whole enc Try.prog Try.f7.params.toList Rows.hostWantsSpec.vars false W args.toList ds gs before) (hsz : (DataW.weightsEach Try.prog (Try.f7.params.toList ++ Rows.hostWantsSpec.plain.varTypes Try.prog) (ds ++ gs)).all (· ≤ reachBytes) = true) :
    Calls Try.prog 7 args W fun e W' => ∃ v, e = .returned v ∧ Rows.hostWantsSpec.post enc Try.prog Try.f7 false true false false W args v W' := by
  have hW' := hW
  obtain ⟨p, q, hA0, hV, rfl, hfz, hnd⟩ := hW
  have hA : DataW.TrodAll enc Try.prog W 0 (fun _ => true) true Try.f7.params.toList args.toList ds p := hA0
  rw [Try.params7] at hA hval
  obtain ⟨v0, vs0, d0, ds0, p0, q0, hargs, rfl, rfl, h0, r0⟩ := trodAll_cons hA
  obtain ⟨rfl, rfl, rfl⟩ := trodAll_nil r0
  obtain rfl : args = #[v0] := by cases args; simp_all
  obtain ⟨rfl, rfl⟩ := trodVars_none hV
  have k0 := h0
  have lt0 : ∀ x ∈ p0, x.block < W.heap.size := by obtain ⟨m, hm⟩ := k0; exact DataW.trod_lt m _ _ _ hm
  obtain ⟨a0, c0, s0, g0, b0, e0, l0, x0, rfl, y0, z0, u0, m0, n0⟩ := open_wants (hval 0 65 v0 rfl rfl) h0 (fun x hx => by simpa using List.all_eq_true.1 hsz _ (DataW.weights_mem_each (j := 0) rfl rfl x hx))
  clear hA0
  refine (walk W a0 c0 s0 g0 b0 e0 l0 x0 y0 z0 u0 m0 n0).mono fun e W' ⟨he, bel⟩ => ?_
  subst he
  exact ⟨_, rfl, _, _, _, [], _, [], hW', trodAll_mk1 (shut_bool Try.underlying4 _), (trodAll_cons_mk (Below.trod laidOut (by kernel_rfl) (of_decide_eq_true (by kernel_rfl)) k0 bel lt0) trodAll_mk0), rfl, bel.frame _, fun h => by cases h⟩

set_option maxRecDepth 100000 in
theorem lifted (os : Os) (started : os.Started) (H : Type) (enc : TypeId × Value → H) :
    ReturnsInHanded {} Try.checked os 7 .any (Rows.hostWantsSpec.pre6 enc Try.prog Try.f7 Rows.hostWantsRow.domain false) (Rows.hostWantsSpec.post enc Try.prog Try.f7 false true false false) := by
  refine returnsInHanded_of_change_sized (C := Try.checked) own started (by kernel_rfl) Try.func7
    (ChangeSpec.witness6 (enc := enc) (C := Try.checked) false ⟨#[], #[(.agg #[.slice none 0 0, .int .u32 0, .slice none 0 0, .int .u32 0])], []⟩ 8 (by kernel_rfl) (by kernel_rfl) (by kernel_rfl) (by kernel_rfl)) ?_
  intro W base args ds gs before hval hW hcnd hsz _
  exact contract H enc W base args ds gs before hval hW hsz
theorem said : Rows.HostWantsSaid :=
  OpenClaim.holds_of_wide 7 Try.f7 rfl rfl rfl rfl rfl rfl rfl ⟨rfl, rfl, rfl, rfl, rfl⟩ rfl rfl rfl rfl rfl (by kernel_rfl) Try.func7 (by kernel_rfl)
    (of_decide_eq_true (by kernel_rfl)) (by unfold Func.isWrapper; first | (rw [if_pos (by decide +kernel)]; kernel_rfl) | (rw [if_neg (by decide +kernel)]; exact ⟨rfl, rfl⟩))
    (fun os started H enc _ => lifted os started H enc)
#print axioms said
end Go.Proofs.Ytmcbbccbonadjaa.hostWants
