/- The law DbPorts: every call returns true, and its arguments read behind the call as before it. Condition: none but the row's own. -/
import Derived.Test.YtiabbkjmgaemaaaGreatDB21
namespace Go.Proofs.YtiabbkjmgaemaaaGreat.dbPorts
set_option linter.unusedVariables false
open Go.ChangeShapes Go.WideShapes Go.ChangeAt Go.RowKit
open Go.ChangeMaps (open_string shut_string)

def wl (l : List Plc) (g x : Int) (j : Nat) : List Int := ((List.range j).map (fun i : Nat => (i : Int))).filter fun p => wants9 l (p * 4294967296 + g) x
theorem wl_inc (l : List Plc) (g x : Int) (j : Nat) : Inc (wl l g x j) := by
  unfold wl Inc
  refine List.Pairwise.sublist List.filter_sublist ?_
  rw [List.pairwise_map]
  exact List.Pairwise.imp (fun h => by omega) List.pairwise_lt_range
theorem wl_yes {l : List Plc} {g x : Int} {j : Nat} (h : wants9 l ((j : Int) * 4294967296 + g) x = true) : wl l g x (j + 1) = wl l g x j ++ [(j : Int)] := by
  unfold wl; rw [List.range_succ, List.map_append, List.filter_append]; simp [h]
theorem wl_no {l : List Plc} {g x : Int} {j : Nat} (h : wants9 l ((j : Int) * 4294967296 + g) x = false) : wl l g x (j + 1) = wl l g x j := by
  unfold wl; rw [List.range_succ, List.map_append, List.filter_append]; simp [h]
theorem wl_pre (l : List Plc) (g x : Int) {j m : Nat} (h : j ≤ m) : ∃ r, wl l g x m = wl l g x j ++ r := by
  induction m with
  | zero => obtain rfl : j = 0 := by omega
            exact ⟨[], by simp⟩
  | succ m ih =>
    by_cases e : j = m + 1
    · subst e; exact ⟨[], by simp⟩
    · obtain ⟨r, hr⟩ := ih (by omega)
      cases hw : wants9 l ((m : Int) * 4294967296 + g) x with
      | true => exact ⟨r ++ [(m : Int)], by rw [wl_yes hw, hr, List.append_assoc]⟩
      | false => exact ⟨r, by rw [wl_no hw, hr]⟩
theorem ports_inc {l : List Plc} {g x : Int} (hr : Ris9 l) : Inc (ports9 l g x) := by
  unfold ports9 Inc
  rw [List.pairwise_map]
  have h1 : (l.filter fun p => decide (p.g = g) && wantsP p.ex p.s x).Pairwise fun p q => p.k < q.k := List.Pairwise.sublist List.filter_sublist hr
  refine List.Pairwise.imp_of_mem ?_ h1
  intro p q hp hq hlt
  have h2 := (List.mem_filter.1 hp).2
  have h3 := (List.mem_filter.1 hq).2
  simp only [Bool.and_eq_true, decide_eq_true_eq] at h2 h3
  unfold Plc.k at hlt
  rw [h2.1, h3.1] at hlt
  omega
theorem ports_eq {kp la lim : Int} {l : List Plc} {g x : Int} (h : okD kp la lim l) (hb : ∀ p ∈ l, 0 ≤ p.g ∧ p.g ≤ 4294967295) (hg : 0 ≤ g ∧ g ≤ 4294967295) : ports9 l g x = wl l g x 64 := by
  refine inc_ext (ports_inc h.2.2.2.1) (wl_inc _ _ _ _) fun p => ?_
  unfold ports9 wl
  rw [List.mem_map, List.mem_filter, List.mem_map]
  constructor
  · rintro ⟨q, hq, rfl⟩
    obtain ⟨hq1, hq2⟩ := List.mem_filter.1 hq
    simp only [Bool.and_eq_true, decide_eq_true_eq] at hq2
    have ho := (h.2.2.2.2 q hq1).1
    refine ⟨⟨q.port.toNat, List.mem_range.2 (by omega), by omega⟩, ?_⟩
    unfold wants9
    rw [at9_some h.2.2.2.1 hq1 (by unfold Plc.k; rw [hq2.1])]
    exact hq2.2
  · rintro ⟨⟨i, hi, rfl⟩, hw⟩
    unfold wants9 at hw
    cases ha : at9 ((i : Int) * 4294967296 + g) l with
    | none => rw [ha] at hw; cases hw
    | some q =>
      rw [ha] at hw
      have hm := List.mem_of_find?_eq_some ha
      have hk := List.find?_some ha
      simp only [beq_iff_eq] at hk
      have he := (key_eq (p := q.port) (q := (i : Int)) (hb q hm) hg).1 hk
      exact ⟨q, List.mem_filter.2 ⟨hm, by simp [he.2, hw]⟩, he.1⟩
theorem tick_max {kp la lim : Int} {l : List Plc} (h : okD kp la lim l) : tickL l 1000000 = [] := by
  unfold tickL
  rw [List.filter_eq_nil_iff]
  intro q hq
  obtain ⟨p, hp, rfl⟩ := List.mem_map.1 hq
  obtain ⟨-, -, -, hm, -⟩ := h.2.2.2.2 p hp
  have hl := hm.left
  have e : tkE p.ex p.left 1000000 = false := by
    unfold tkE
    rw [show max (p.left - 1000000) 0 = 0 by omega]
    simp
  have e2 : tkS p.ex p.left p.s 1000000 = [] := by
    unfold tkS
    rw [e, List.filter_eq_nil_iff.2]
    · rfl
    · intro y hy
      have := (hm.2.2.2.1 y hy).1
      simp; omega
  unfold sm tkP
  simp only [e, e2]
  decide
theorem iv_at {zs : List Int} {k : Nat} {z : Int} (h : zs[k]? = some z) : (iv zs)[k]? = some (.int .i64 z) := by unfold iv; rw [List.getElem?_map, h]; rfl
set_option maxRecDepth 100000 in
set_option maxHeartbeats 16000000 in
theorem walk (w : World) (kp la lim : Int) (a : Option Addr) (c : Nat) (l : List Plc) (hin : DIn w a l) (g : Int) (hg : 0 ≤ g ∧ g ≤ 4294967295) (x : Int) (hxx : 0 ≤ x ∧ x ≤ 4294967295) :
    Calls Tryz.prog 7 #[.agg #[.int .i64 kp, .int .i64 la, .int .i64 lim, .slice a (List.length l) c], .int .u32 g, .int .u32 x] w fun e w' => e = .returned (.bool true) ∧ Below w.heap.size w w' := by
  obtain ⟨n, hn⟩ : ∃ n, l.length = n := ⟨_, rfl⟩
  obtain ⟨hpl, hn0, hsl⟩ := hin
  rw [hn] at hn0 ⊢
  have HX := Lib.hid hn
  have HSL := Lib.hid hsl
  have HGG := Lib.hid hg
  have hb := bel1 w (.cells #[.int .i64 kp, .int .i64 la, .int .i64 lim, .slice a n c] 46)
  have V := Lib.hid (DV.new w kp la lim a n c)
  have HPL := Lib.hid (hpl.below hb)
  have HB := Lib.hid hb
  clear hn hpl hsl hb hg hxx
  go_enter Tryz.func7, Tryz.ntmps7
  go_wp2_with fail
  generalize w.alloc (.cells #[.int .i64 kp, .int .i64 la, .int .i64 lim, .slice a n c] 46) = w1 at *
  refine (dShown w1).mono ?_
  rintro e w2 ⟨rfl, hb⟩
  replace V := Lib.hid (V.out.below hb V.out.lt)
  replace HPL := Lib.hid (HPL.out.below hb)
  replace HB := Lib.hid (HB.out.trans (hb.mono HB.out.size))
  clear hb
  obtain ⟨c0, c1, c2, c3, -⟩ := V.out.cells
  go_wp2_with fail
  refine (rFew9 kp la lim a n c l w2 HX.out hn0 HPL.out HSL.out).mono ?_
  rintro e w3 ⟨rfl, hb⟩
  replace V := Lib.hid (V.out.below hb V.out.lt)
  replace HPL := Lib.hid (HPL.out.below hb)
  replace HB := Lib.hid (HB.out.trans (hb.mono HB.out.size))
  clear hb c0 c1 c2 c3
  obtain ⟨c0, c1, c2, c3, -⟩ := V.out.cells
  obtain ⟨fw, hfw⟩ : ∃ f, decide (few l ≤ 2000) = f := ⟨_, rfl⟩
  rw [hfw]
  have HFW := Lib.hid hfw
  clear hfw
  cases fw
  · go_wp2_with fail
    go_ret
    exact ⟨rfl, HB.out⟩
  have hfew := of_decide_eq_true HFW.out
  have hn2k : n ≤ 2000 := by unfold few at hfew; have := HX.out; omega
  have HS2 : Hid (∀ p ∈ l, p.s.length ≤ 2000) := Lib.hid (fun p hp => Nat.le_trans (few_one hp) hfew)
  clear hfew
  go_wp2_with fail
  refine (rRight9 kp la lim a n c l w3 HX.out (by omega) HPL.out (fun p hp => by have := HS2.out p hp; omega)).mono ?_
  rintro e w4 ⟨rfl, hb⟩
  replace V := Lib.hid (V.out.below hb V.out.lt)
  replace HPL := Lib.hid (HPL.out.below hb)
  replace HB := Lib.hid (HB.out.trans (hb.mono HB.out.size))
  clear hb c0 c1 c2 c3
  obtain ⟨c0, c1, c2, c3, -⟩ := V.out.cells
  obtain ⟨ok, hok⟩ : ∃ f, decide (okD kp la lim l) = f := ⟨_, rfl⟩
  rw [hok]
  have HOKB := Lib.hid hok
  clear hok
  cases ok
  · go_wp2_with fail
    go_ret
    exact ⟨rfl, HB.out⟩
  have HOK := Lib.hid (of_decide_eq_true HOKB.out)
  have HOKW := Lib.hid (okW_of HOK.out)
  have HRI := Lib.hid HOK.out.2.2.2.1
  have HPE := Lib.hid (ports_eq (x := x) HOK.out (fun p hp => (HPL.out.mem hp).2.2.1) HGG.out)
  go_wp2_with fail
  clear c0 c1 c2 c3
  refine (dPorts kp la lim a n c l g x w4 HX.out (by omega) HPL.out HOKW.out).mono ?_
  rintro e w5 ⟨⟨a8, c8, rfl, ho8⟩, hb⟩
  rw [HPE.out] at ho8 ⊢
  obtain ⟨n8, hn8⟩ : ∃ k, (wl l g x 64).length = k := ⟨_, rfl⟩
  rw [hn8] at ho8 ⊢
  have HN8 := Lib.hid hn8
  have hn8b : n8 ≤ 64 := by
    rw [← hn8]
    unfold wl
    exact Nat.le_trans (List.length_filter_le _ _) (by simp)
  have HO8 := Lib.hid ho8
  replace V := Lib.hid (V.out.below hb V.out.lt)
  replace HPL := Lib.hid (HPL.out.below hb)
  replace HB := Lib.hid (HB.out.trans (hb.mono HB.out.size))
  have HW45 := Lib.hid hb.size
  clear hb hn8 ho8
  go_wp2_with fail
  go_loopw [9, 10] (fun v9 v10 wr => ∃ j : Nat, v9 = .int .i64 ((wl l g x j).length : Int) ∧ v10 = .int .i64 (j : Int) ∧ j ≤ 64 ∧ Below w5.heap.size w5 wr) (fun _ v _ => 64 - (intOf v).toNat)
  case atStart => exact ⟨0, by simp [wl], rfl, by omega, Below.refl _ _⟩
  case round =>
    obtain ⟨j, rfl, rfl, hj, hbr⟩ := hrel
    have HBR := Lib.hid hbr
    have Vr := Lib.hid (V.out.below hbr V.out.lt)
    have HPr := Lib.hid (HPL.out.below hbr)
    have HOr := Lib.hid (own_grown HO8.out hbr (Nat.le_refl _))
    have hkl : (wl l g x j).length ≤ n8 := by
      obtain ⟨r, hr⟩ := wl_pre l g x hj
      rw [← HN8.out, hr, List.length_append]; omega
    clear hbr
    by_cases hlt : j < 64
    · obtain ⟨c0, c1, c2, c3, -⟩ := Vr.out.cells
      have hjz : (j : Int) < 64 := by omega
      go_wp2_with fail
      refine (dWants kp la lim a n c l (j : Int) g x wr HX.out (by omega) HPr.out HRI.out HOKW.out HGG.out).mono ?_
      rintro e w6 ⟨rfl, hb⟩
      have HB6 := Lib.hid (HBR.out.trans (hb.mono HBR.out.size))
      have HO6 := Lib.hid (own_grown HOr.out hb (Nat.le_refl _))
      clear hb c0 c1 c2 c3
      obtain ⟨q, hq⟩ : ∃ q, wants9 l ((j : Int) * 4294967296 + g) x = q := ⟨_, rfl⟩
      rw [hq]
      have HQ := Lib.hid hq
      clear hq
      obtain ⟨k, hk⟩ : ∃ k, (wl l g x j).length = k := ⟨_, rfl⟩
      rw [hk] at hkl ⊢
      have HK := Lib.hid hk
      clear hk
      cases q
      · have HE : Hid ((wl l g x (j + 1)).length = k) := Lib.hid (by rw [wl_no HQ.out, HK.out])
        go_wp2_with fail
        go_roundw
        case rel => exact ⟨j + 1, by rw [HE.out], by go_num, by omega, HB6.out⟩
        case measure => simp [intOf]; omega
      · have HE : Hid ((wl l g x (j + 1)).length = k + 1) := Lib.hid (by rw [wl_yes HQ.out, List.length_append, HK.out]; rfl)
        obtain ⟨r, hr⟩ := wl_pre l g x (show j + 1 ≤ 64 by omega)
        have hat : (wl l g x 64)[k]? = some (j : Int) := by
          rw [hr, wl_yes HQ.out, List.append_assoc, List.getElem?_append_right (by rw [HK.out]; exact Nat.le_refl _), HK.out, Nat.sub_self]
          rfl
        have hk8 : k < n8 := by rw [← HN8.out]; exact (List.getElem?_eq_some_iff.1 hat).1
        obtain ⟨gq, rfl, -, -, hcell⟩ := kown_at HO6.out (by omega)
        have y0 := hcell k _ (iv_at hat)
        have hk1 : ¬ (n8 : Int) ≤ (k : Int) := by omega
        have hk2 : decide ((n8 : Int) ≤ (k : Int)) = false := decide_eq_false hk1
        have hk3 : (k : Int) < (n8 : Int) := by omega
        have hk0 : (0 : Int) ≤ (k : Int) := by omega
        have hjj : ((j : Int) != (j : Int)) = false := by simp
        clear hcell hat hr
        go_wp2_with fail
        go_roundw
        case rel => exact ⟨j + 1, by rw [HE.out]; go_num, by go_num, by omega, HB6.out⟩
        case measure => simp [intOf]; omega
    · obtain rfl : j = 64 := by omega
      have hfin : ((wl l g x 64).length : Int) = (n8 : Int) := by rw [HN8.out]
      rw [hfin]
      have hee : ((n8 : Int) == (n8 : Int)) = true := by simp
      have HB5 := Lib.hid (HB.out.trans (HBR.out.mono HB.out.size))
      obtain ⟨c0, c1, c2, c3, -⟩ := Vr.out.cells
      clear hfin
      go_wp2_with fail
      refine (dTick9 kp la lim a n c l 1000000 wr HX.out (by omega) HPr.out HOK.out.2.2.2.2 (by omega)).mono ?_
      rintro e w7 ⟨⟨a9, c9, l9, rfl, hm9, -, -⟩, hb⟩
      rw [show max (1000000 : Int) 0 = 1000000 by omega, tick_max HOK.out] at hm9
      obtain rfl : l9 = [] := by simpa using hm9
      have HB7 := Lib.hid (HB5.out.trans (hb.mono HB5.out.size))
      clear hb hm9 c0 c1 c2 c3
      simp only [List.length_nil]
      have hfd : ∀ W : World, (Instr.field 46 (.agg #[.int .i64 kp, .int .i64 la, .int .i64 lim, .slice a9 0 c9]) 2).run Tryz.prog W = .ok (.slice a9 0 c9) W := fun W => by kernel_rfl
      go_wp2_with fail
      go_ret
      exact ⟨rfl, HB7.out⟩

set_option maxRecDepth 100000 in
theorem contract (H : Type) (enc : TypeId × Value → H) (W : World) (base : Nat) (args : Array Value) (ds gs : List (DataW H)) (before : List MemPlace)
    (hval : ∀ (j : Nat) t v, Tryz.f7.params[j]? = some t → args[j]? = some v → Value.okWide Tryz.prog W .any base t v)
    (hW : DataW.Whole enc Tryz.prog Tryz.f7.params.toList Rows.dbPortsSpec.vars false W args.toList ds gs before) (hsz : (DataW.weightsEach Tryz.prog (Tryz.f7.params.toList ++ Rows.dbPortsSpec.plain.varTypes Tryz.prog) (ds ++ gs)).all (· ≤ reachBytes) = true) :
    Calls Tryz.prog 7 args W fun e W' => ∃ v, e = .returned v ∧ Rows.dbPortsSpec.post enc Tryz.prog Tryz.f7 false true false false W args v W' := by
  have hW' := hW
  obtain ⟨p, q, hA0, hV, rfl, hfz, hnd⟩ := hW
  have hA : DataW.TrodAll enc Tryz.prog W 0 (fun _ => true) true Tryz.f7.params.toList args.toList ds p := hA0
  rw [Tryz.params7] at hA hval
  obtain ⟨v0, vs0, d0, ds0, p0, q0, hargs, rfl, rfl, h0, r0⟩ := trodAll_cons hA
  obtain ⟨v1, vs1, d1, ds1, p1, q1, rfl, rfl, rfl, h1, r1⟩ := trodAll_cons r0
  obtain ⟨v2, vs2, d2, ds2, p2, q2, rfl, rfl, rfl, h2, r2⟩ := trodAll_cons r1
  obtain ⟨rfl, rfl, rfl⟩ := trodAll_nil r2
  obtain rfl : args = #[v0, v1, v2] := by cases args; simp_all
  obtain ⟨rfl, rfl⟩ := trodVars_none hV
  have k0 := h0
  have lt0 : ∀ x ∈ p0, x.block < W.heap.size := by obtain ⟨m, hm⟩ := k0; exact DataW.trod_lt m _ _ _ hm
  have k1 := h1
  have lt1 : ∀ x ∈ p1, x.block < W.heap.size := by obtain ⟨m, hm⟩ := k1; exact DataW.trod_lt m _ _ _ hm
  have k2 := h2
  have lt2 : ∀ x ∈ p2, x.block < W.heap.size := by obtain ⟨m, hm⟩ := k2; exact DataW.trod_lt m _ _ _ hm
  obtain ⟨kq0, l0, m0, a0, c0, s0, rfl, q10⟩ := open_db (hval 0 46 v0 rfl rfl) h0 (fun x hx => by simpa using List.all_eq_true.1 hsz _ (DataW.weights_mem_each (j := 0) rfl rfl x hx))
  obtain ⟨a1, rfl, rfl, rfl, w1⟩ := open_int Tryz.underlying25 (hval 1 25 v1 rfl rfl) h1
  obtain ⟨a2, rfl, rfl, rfl, w2⟩ := open_int Tryz.underlying25 (hval 2 25 v2 rfl rfl) h2
  clear hA0
  refine (walk W kq0 l0 m0 a0 c0 s0 q10 a1 (bounds_u32 w1) a2 (bounds_u32 w2)).mono fun e W' ⟨he, bel⟩ => ?_
  subst he
  exact ⟨_, rfl, _, _, _, [], _, [], hW', trodAll_mk1 (shut_bool Tryz.underlying4 _), (trodAll_cons_mk (Below.trod laidOut (by kernel_rfl) (of_decide_eq_true (by kernel_rfl)) k0 bel lt0) (trodAll_cons_mk (Below.trod laidOut (by kernel_rfl) (of_decide_eq_true (by kernel_rfl)) k1 bel lt1) (trodAll_cons_mk (Below.trod laidOut (by kernel_rfl) (of_decide_eq_true (by kernel_rfl)) k2 bel lt2) trodAll_mk0))), rfl, bel.frame _, fun h => by cases h⟩

set_option maxRecDepth 100000 in
theorem lifted (os : Os) (started : os.Started) (H : Type) (enc : TypeId × Value → H) :
    ReturnsInHanded {} Tryz.checked os 7 .any (Rows.dbPortsSpec.pre6 enc Tryz.prog Tryz.f7 Rows.dbPortsRow.domain false) (Rows.dbPortsSpec.post enc Tryz.prog Tryz.f7 false true false false) := by
  refine returnsInHanded_of_change_sized (C := Tryz.checked) own started (by kernel_rfl) Tryz.func7
    (ChangeSpec.witness6 (enc := enc) (C := Tryz.checked) false ⟨#[], #[(.agg #[.int .i64 0, .int .i64 0, .int .i64 0, .slice none 0 0]), (.int .u32 0), (.int .u32 0)], []⟩ 8 (by kernel_rfl) (by kernel_rfl) (by kernel_rfl) (by kernel_rfl)) ?_
  intro W base args ds gs before hval hW hcnd hsz _
  exact contract H enc W base args ds gs before hval hW hsz
theorem said : Rows.DbPortsSaid :=
  OpenClaim.holds_of_wide 7 Tryz.f7 rfl rfl rfl rfl rfl rfl rfl ⟨rfl, rfl, rfl, rfl, rfl⟩ rfl rfl rfl rfl rfl (by kernel_rfl) Tryz.func7 (by kernel_rfl)
    (of_decide_eq_true (by kernel_rfl)) (by unfold Func.isWrapper; first | (rw [if_pos (by decide +kernel)]; kernel_rfl) | (rw [if_neg (by decide +kernel)]; exact ⟨rfl, rfl⟩))
    (fun os started H enc _ => lifted os started H enc)
#print axioms said
end Go.Proofs.YtiabbkjmgaemaaaGreat.dbPorts
