/- The law SetWants: every call returns true, and its arguments read behind the call as before it. Condition: none but the row's own. -/
import Derived.Test.YtikanaabecmkcaaPl
import Derived.Test.YtikanaabecmkcaaPn
namespace Go.Proofs.Ytikanaabecmkcaa.setWants
set_option linter.unusedVariables false
open Go.ChangeShapes Go.WideShapes Go.ChangeAt Go.RowKit
open Go.ChangeMaps (open_string shut_string)

set_option linter.unusedSimpArgs false in
set_option maxRecDepth 100000 in
set_option maxHeartbeats 8000000 in
theorem walk0 (w : World) (a : Option Addr) (ca : Nat) (fs : List Flt) (sa : Fls w a fs) (na : fs.length ≤ 1125899906842624) (la : ∀ f ∈ fs, f.srcs.length ≤ 1125899906842624) (za : a = none → ca = 0) (x : Int) (hx : 0 ≤ x ∧ x ≤ 4294967295) (q : ¬ okF fs) :
    Calls Try.prog 6 #[.slice a fs.length ca, .int .u32 x] w fun e w' => e = .returned (.bool true) ∧ Below w.heap.size w w' := by
  have Sa := Lib.hid sa
  have La := Lib.hid la
  clear sa la
  obtain ⟨n, hn⟩ : ∃ n, fs.length = n := ⟨_, rfl⟩
  have HN := Lib.hid hn
  rw [hn] at na ⊢
  clear hn
  go_enter Try.func6, Try.ntmps6
  go_wp2_with fail
  refine (sShown _).mono ?_
  rintro e w1 ⟨rfl, hb⟩
  have BB := Lib.hid hb
  have Sa := Lib.hid (Sa.out.below hb)
  clear hb
  go_wp2_with fail
  refine (rFilters a n ca fs _ HN.out na La.out Sa.out).mono ?_
  rintro e w2 ⟨rfl, hb⟩
  have BB := Lib.hid (BB.out.trans (hb.mono BB.out.size))
  have Sa := Lib.hid (Sa.out.below hb)
  clear hb
  rw [decide_eq_false q]
  go_wp2_with fail
  go_ret
  exact ⟨rfl, BB.out⟩
set_option linter.unusedSimpArgs false in
set_option maxRecDepth 100000 in
set_option maxHeartbeats 8000000 in
theorem walk1 (w : World) (a : Option Addr) (ca : Nat) (fs : List Flt) (sa : Fls w a fs) (na : fs.length ≤ 1125899906842624) (la : ∀ f ∈ fs, f.srcs.length ≤ 1125899906842624) (za : a = none → ca = 0) (x : Int) (hx : 0 ≤ x ∧ x ≤ 4294967295) (q : okF fs) :
    Calls Try.prog 6 #[.slice a fs.length ca, .int .u32 x] w fun e w' => e = .returned (.bool true) ∧ Below w.heap.size w w' := by
  have Sa := Lib.hid sa
  have La := Lib.hid la
  clear sa la
  obtain ⟨n, hn⟩ : ∃ n, fs.length = n := ⟨_, rfl⟩
  have HN := Lib.hid hn
  rw [hn] at na ⊢
  clear hn
  have HO := Lib.hid q
  clear q
  go_enter Try.func6, Try.ntmps6
  go_wp2_with fail
  refine (sShown _).mono ?_
  rintro e w1 ⟨rfl, hb⟩
  have BB := Lib.hid hb
  have Sa := Lib.hid (Sa.out.below hb)
  clear hb
  go_wp2_with fail
  refine (rFilters a n ca fs _ HN.out na La.out Sa.out).mono ?_
  rintro e w2 ⟨rfl, hb⟩
  have BB := Lib.hid (BB.out.trans (hb.mono BB.out.size))
  have Sa := Lib.hid (Sa.out.below hb)
  clear hb
  rw [decide_eq_true HO.out]
  have hn200 : n ≤ 200 := by have h1 := HN.out; have h2 := tot_len fs; have h3 := HO.out.2; omega
  go_wp2_with fail
  go_loopw [6, 7] (fun v6 v7 wr => ∃ k : Nat, v6 = .bool ((fs.take k).any (wf x)) ∧ v7 = .int .i64 (k : Int) ∧ k ≤ n ∧ Below w2.heap.size w2 wr) (fun _ v _ => n - (intOf v).toNat)
  case atStart => exact ⟨0, rfl, rfl, by omega, Below.refl _ _⟩
  case round =>
    obtain ⟨k, rfl, rfl, hk, hB⟩ := hrel
    have S2 := Lib.hid (Sa.out.below hB)
    have B2 := Lib.hid (BB.out.trans (hB.mono BB.out.size))
    have HB := Lib.hid hB
    clear hB
    by_cases hlt : k < n
    · obtain ⟨b, off, rfl, hc⟩ := S2.out.at (k := k) (by rw [HN.out]; exact hlt)
      obtain ⟨⟨ex, srcs, fa, fc⟩, hfk⟩ : ∃ f, fs[k]? = some f := ⟨_, List.getElem?_eq_getElem (by rw [HN.out]; exact hlt)⟩
      obtain ⟨⟨c0, c1⟩, hok⟩ := hc k _ hfk
      simp only [Flt.sl] at c1
      have hs : srcs.length ≤ 400 := HO.out.few.2 _ (List.mem_of_getElem? hfk)
      have HOK := Lib.hid hok
      have AS := Lib.hid (any_succ hfk (wf x))
      clear hc hok hfk
      have hkz : (k : Int) < (n : Int) := by omega
      cases hin : (fs.take k).any (wf x)
      · have AS2 := Lib.hid (AS.out.trans (by rw [hin, Bool.false_or]))
        clear AS hin
        go_wp2_with fail
        refine (sWants ex fa srcs.length fc srcs x _ rfl (by omega) HOK.out.1).mono ?_
        rintro e w4 ⟨rfl, hB4⟩
        obtain ⟨bv, hbv⟩ : ∃ bv, (decide (x ∈ srcs) != ex) = bv := ⟨_, rfl⟩
        have HBV := Lib.hid hbv
        rw [hbv]
        have HB4 := Lib.hid (HB.out.trans (hB4.mono HB.out.size))
        clear hbv hB4
        go_wp2_with fail
        go_roundw
        case rel => exact ⟨k + 1, by rw [AS2.out, ← HBV.out]; rfl, by go_num, by omega, HB4.out⟩
        case measure => simp [intOf]; omega
      · have AS2 := Lib.hid (AS.out.trans (by rw [hin, Bool.true_or]) : _ = true)
        clear AS hin
        go_wp2_with fail
        go_roundw
        case rel => exact ⟨k + 1, by rw [AS2.out], by go_num, by omega, HB.out⟩
        case measure => simp [intOf]; omega
    · obtain rfl : k = n := by omega
      rw [List.take_of_length_le (by rw [HN.out]; exact Nat.le_refl _)]
      have hfi := flt_inc HO.out.1
      have hfw := flt_wants HO.out.1 x
      have hfl := flt_len HO.out.few
      have hsf := sFilter a k ca fs wr HN.out HO.out.few S2.out
      obtain ⟨⟨e5, l5⟩, h5⟩ : ∃ p, flt fs = p := ⟨_, rfl⟩
      rw [h5] at hfi hfw hfl hsf
      have HI := Lib.hid hfi
      have HW := Lib.hid hfw
      have HS := Lib.hid hsf
      replace hfl : l5.length ≤ 160000 := hfl
      clear hfi hfw hsf h5
      obtain ⟨bv, hbv⟩ : ∃ bv, fs.any (wf x) = bv := ⟨_, rfl⟩
      rw [hbv] at HW ⊢
      clear hbv
      go_wp2_with fail
      refine HS.out.mono ?_
      rintro e w5 ⟨⟨a5, c5, rfl, hA5, -⟩, hB5⟩
      have HA5 := Lib.hid hA5
      have HB5 := Lib.hid (B2.out.trans (hB5.mono B2.out.size))
      clear hA5 hB5 HS
      simp only []
      cases bv
      all_goals
        go_wp2_with fail
        obtain ⟨c0, c1⟩ := box_new w5 (.bool e5) (.slice a5 l5.length c5)
        have hb6 := bel1 w5 (.cells #[.bool e5, .slice a5 l5.length c5] 35)
        have HA6 := Lib.hid (HA5.out.below hb6)
        have HB6 := Lib.hid (HB5.out.trans (hb6.mono HB5.out.size))
        clear hb6
        generalize w5.alloc (.cells #[.bool e5, .slice a5 l5.length c5] 35) = w6 at *
        refine (sWants e5 a5 _ c5 l5 x _ rfl (by omega) HA6.out).mono ?_
        rintro e w7 ⟨rfl, hB7⟩
        rw [HW.out]
        replace c1 := (hB7.cell (cell_lt c1)).trans c1
        have HA7 := Lib.hid (HA6.out.below hB7)
        have HB7 := Lib.hid (HB6.out.trans (hB7.mono HB6.out.size))
        clear c0 hB7
        go_wp2_with fail
        refine (rRight a5 _ c5 l5 _ rfl (by omega) HA7.out).mono ?_
        rintro e w8 ⟨rfl, hB8⟩
        rw [decide_eq_true HI.out]
        have HB8 := Lib.hid (HB7.out.trans (hB8.mono HB7.out.size))
        clear hB8
        go_wp2_with fail
        go_ret
        exact ⟨rfl, HB8.out⟩
theorem walk (w : World) (a : Option Addr) (ca : Nat) (fs : List Flt) (sa : Fls w a fs) (na : fs.length ≤ 1125899906842624) (la : ∀ f ∈ fs, f.srcs.length ≤ 1125899906842624) (za : a = none → ca = 0) (x : Int) (hx : 0 ≤ x ∧ x ≤ 4294967295) :
    Calls Try.prog 6 #[.slice a fs.length ca, .int .u32 x] w fun e w' => e = .returned (.bool true) ∧ Below w.heap.size w w' := by
  by_cases q : okF fs
  · exact walk1 w a ca fs sa na la za x hx q
  · exact walk0 w a ca fs sa na la za x hx q

theorem contract (H : Type) (enc : TypeId × Value → H) (W : World) (base : Nat) (args : Array Value) (ds gs : List (DataW H)) (before : List MemPlace)
    (hval : ∀ (j : Nat) t v, Try.f6.params[j]? = some t → args[j]? = some v → Value.okWide Try.prog W .any base t v)
    (hW : DataW.Whole enc Try.prog Try.f6.params.toList Rows.setWantsSpec.vars false W args.toList ds gs before) (hsz : (DataW.weightsEach Try.prog (Try.f6.params.toList ++ Rows.setWantsSpec.plain.varTypes Try.prog) (ds ++ gs)).all (· ≤ reachBytes) = true) :
    Calls Try.prog 6 args W fun e W' => ∃ v, e = .returned v ∧ Rows.setWantsSpec.post enc Try.prog Try.f6 false true false false W args v W' := by
  have hW' := hW
  obtain ⟨p, q, hA0, hV, rfl, hfz, hnd⟩ := hW
  have hA : DataW.TrodAll enc Try.prog W 0 (fun _ => true) true Try.f6.params.toList args.toList ds p := hA0
  rw [Try.params6] at hA hval
  obtain ⟨v0, vs0, d0, ds0, p0, q0, hargs, rfl, rfl, h0, r0⟩ := trodAll_cons hA
  obtain ⟨v1, vs1, d1, ds1, p1, q1, rfl, rfl, rfl, h1, r1⟩ := trodAll_cons r0
  obtain ⟨rfl, rfl, rfl⟩ := trodAll_nil r1
  obtain rfl : args = #[v0, v1] := by cases args; simp_all
  obtain ⟨rfl, rfl⟩ := trodVars_none hV
  have k0 := h0
  have lt0 : ∀ x ∈ p0, x.block < W.heap.size := by obtain ⟨m, hm⟩ := k0; exact DataW.trod_lt m _ _ _ hm
  have k1 := h1
  have lt1 : ∀ x ∈ p1, x.block < W.heap.size := by obtain ⟨m, hm⟩ := k1; exact DataW.trod_lt m _ _ _ hm
  obtain ⟨a0, c0, x0, rfl, s0, n0, l0, z0⟩ := open_flts (hval 0 32 v0 rfl rfl) h0 (fun x hx => by simpa using List.all_eq_true.1 hsz _ (DataW.weights_mem_each (j := 0) rfl rfl x hx))
  obtain ⟨a1, rfl, rfl, rfl, w1⟩ := open_int Try.underlying24 (hval 1 24 v1 rfl rfl) h1
  clear hA0
  refine (walk W a0 c0 x0 s0 n0 l0 z0 a1 (bounds_u32 w1)).mono fun e W' ⟨he, bel⟩ => ?_
  subst he
  exact ⟨_, rfl, _, _, _, [], _, [], hW', trodAll_mk1 (shut_bool Try.underlying4 _), (trodAll_cons_mk (Below.trod laidOut (by kernel_rfl) (of_decide_eq_true (by kernel_rfl)) k0 bel lt0) (trodAll_cons_mk (Below.trod laidOut (by kernel_rfl) (of_decide_eq_true (by kernel_rfl)) k1 bel lt1) trodAll_mk0)), rfl, bel.frame _, fun h => by cases h⟩

set_option maxRecDepth 100000 in
theorem lifted (os : Os) (started : os.Started) (H : Type) (enc : TypeId × Value → H) :
    ReturnsInHanded {} Try.checked os 6 .any (Rows.setWantsSpec.pre6 enc Try.prog Try.f6 Rows.setWantsRow.domain false) (Rows.setWantsSpec.post enc Try.prog Try.f6 false true false false) := by
  refine returnsInHanded_of_change_sized (C := Try.checked) own started (by kernel_rfl) Try.func6
    (ChangeSpec.witness6 (enc := enc) (C := Try.checked) false ⟨#[], #[(.slice none 0 0), (.int .u32 0)], []⟩ 8 (by kernel_rfl) (by kernel_rfl) (by kernel_rfl) (by kernel_rfl)) ?_
  intro W base args ds gs before hval hW hcnd hsz _
  exact contract H enc W base args ds gs before hval hW hsz
theorem said : Rows.SetWantsSaid :=
  OpenClaim.holds_of_wide 6 Try.f6 rfl rfl rfl rfl rfl rfl rfl ⟨rfl, rfl, rfl, rfl, rfl⟩ rfl rfl rfl rfl rfl (by kernel_rfl) Try.func6 (by kernel_rfl)
    (of_decide_eq_true (by kernel_rfl)) (by unfold Func.isWrapper; first | (rw [if_pos (by decide +kernel)]; kernel_rfl) | (rw [if_neg (by decide +kernel)]; exact ⟨rfl, rfl⟩))
    (fun os started H enc _ => lifted os started H enc)
#print axioms said
end Go.Proofs.Ytikanaabecmkcaa.setWants
