/- The law SetFilters: every call returns true, and its arguments read behind the call as before it. Condition: none but the row's own. -/
import Derived.Test.YtikanaabecmkcaaPl
import Derived.Test.YtikanaabecmkcaaPt
import Derived.Test.YtikanaabecmkcaaRi
namespace Go.Proofs.Ytikanaabecmkcaa.setFilters
set_option linter.unusedVariables false
open Go.ChangeShapes Go.WideShapes Go.ChangeAt Go.RowKit
open Go.ChangeMaps (open_string shut_string)

def sV (a : Option Addr) (n ca : Nat) (x : Int) (e5 : Bool) (a5 : Option Addr) (l5 : List Int) (c5 : Nat) (bv : Bool) : Nat → Value → List Value → World → Prop
  | 2, v, _, _ => v = .agg #[.bool e5, .slice a5 l5.length c5]
  | 3, v, _, _ => v = .slice a n ca
  | 4, v, _, w => ∃ a6 c6, v = .agg #[.bool e5, .slice a6 l5.length c6] ∧ As w a6 l5
  | 8, v, _, _ => v = .agg #[.bool e5, .slice a5 l5.length c5]
  | 9, v, _, _ => v = .int .u32 x
  | 10, v, _, _ => v = .bool bv
  | 11, v, _, _ => v = .agg #[.bool e5, .slice a5 l5.length c5]
  | 12, v, _, _ => v = .int .u32 x
  | 13, v, _, _ => v = .bool bv
  | _, v, _, _ => v = .bool true
def sD : Nat → List Nat
  | 1 => [0] | 2 => [1] | 3 => [1] | 4 => [3, 1] | 5 => [2, 4, 1] | 6 => [1, 5] | 7 => [6] | 8 => [7] | 9 => [7] | 10 => [8, 9, 7] | 11 => [7] | 12 => [7] | 13 => [11, 12, 7] | 14 => [10, 13, 7] | 15 => [7, 14] | 16 => [15] | _ => []
theorem sV_stable {a : Option Addr} {n ca : Nat} {x : Int} {e5 : Bool} {a5 : Option Addr} {l5 : List Int} {c5 : Nat} {bv : Bool} {i : Nat} {v : Value} {us : List Value} {w w' : World} (hr : Below w.heap.size w w') (hv : sV a n ca x e5 a5 l5 c5 bv i v us w) : sV a n ca x e5 a5 l5 c5 bv i v us w' := by
  unfold sV at hv ⊢
  split at hv
  all_goals first
    | exact hv
    | (obtain ⟨a6, c6, e, hb⟩ := hv; exact ⟨a6, c6, e, hb.below hr⟩)
theorem evF {a : Act} {t : Nat} {v : Value} (h : a.eval (.tmp t) = v) : a.tmps[t]?.getD undef = v := by simpa [Act.eval] using h
set_option linter.unusedSimpArgs false in
set_option maxRecDepth 100000 in
set_option maxHeartbeats 8000000 in
theorem walk0 (w : World) (a : Option Addr) (ca : Nat) (fs : List Flt) (sa : Fls w a fs) (na : fs.length ≤ 1125899906842624) (la : ∀ f ∈ fs, f.srcs.length ≤ 1125899906842624) (za : a = none → ca = 0) (x : Int) (hx : 0 ≤ x ∧ x ≤ 4294967295) (q : ¬ okF fs) :
    Calls Try.prog 4 #[.slice a fs.length ca, .int .u32 x] w fun e w' => e = .returned (.bool true) ∧ Below w.heap.size w w' := by
  have Sa := Lib.hid sa
  have La := Lib.hid la
  clear sa la
  obtain ⟨n, hn⟩ : ∃ n, fs.length = n := ⟨_, rfl⟩
  have HN := Lib.hid hn
  rw [hn] at na ⊢
  clear hn
  go_enter Try.func4, Try.ntmps4
  go_wp2_with fail
  refine (sShown _).mono ?_
  rintro e w1 ⟨rfl, hb⟩
  have BB := Lib.hid hb
  have Sa := Lib.hid (Sa.out.below hb)
  clear hb
  go_wp2_with fail
  refine (rFilters a n ca fs _ HN.out na La.out Sa.out).mono ?_
  rintro e w2 ⟨rfl, hb⟩
  have BB := Lib.hid (BB.out.trans (hb.mono BB.out.size))
  have Sa := Lib.hid (Sa.out.below hb)
  clear hb
  rw [decide_eq_false q]
  go_wp2_with fail
  go_ret
  exact ⟨rfl, BB.out⟩
set_option linter.unusedSimpArgs false in
set_option maxRecDepth 100000 in
set_option maxHeartbeats 8000000 in
theorem walk1 (w : World) (a : Option Addr) (ca : Nat) (fs : List Flt) (sa : Fls w a fs) (na : fs.length ≤ 1125899906842624) (la : ∀ f ∈ fs, f.srcs.length ≤ 1125899906842624) (za : a = none → ca = 0) (x : Int) (hx : 0 ≤ x ∧ x ≤ 4294967295) (q : okF fs) :
    Calls Try.prog 4 #[.slice a fs.length ca, .int .u32 x] w fun e w' => e = .returned (.bool true) ∧ Below w.heap.size w w' := by
  have Sa := Lib.hid sa
  have La := Lib.hid la
  clear sa la
  obtain ⟨n, hn⟩ : ∃ n, fs.length = n := ⟨_, rfl⟩
  have HN := Lib.hid hn
  rw [hn] at na ⊢
  clear hn
  have HO := Lib.hid q
  clear q
  go_enter Try.func4, Try.ntmps4
  go_wp2_with fail
  refine (sShown _).mono ?_
  rintro e w1 ⟨rfl, hb⟩
  have BB := Lib.hid hb
  have Sa := Lib.hid (Sa.out.below hb)
  clear hb
  go_wp2_with fail
  refine (rFilters a n ca fs _ HN.out na La.out Sa.out).mono ?_
  rintro e w2 ⟨rfl, hb⟩
  have BB := Lib.hid (BB.out.trans (hb.mono BB.out.size))
  have Sa := Lib.hid (Sa.out.below hb)
  clear hb
  rw [decide_eq_true HO.out]
  have hfw := flt_wants HO.out.1 x
  have hfl := flt_len HO.out.few
  have hsf := sFilter a n ca fs w2 HN.out HO.out.few Sa.out
  have hrf := fun (W : World) (hS : Fls W a fs) => rFilter a n ca fs W HN.out HO.out hS
  obtain ⟨⟨e5, l5⟩, h5⟩ : ∃ p, flt fs = p := ⟨_, rfl⟩
  rw [h5] at hfw hfl hsf
  simp only [h5] at hrf
  have HS := Lib.hid hsf
  have RFF := Lib.hid hrf
  replace hfl : l5.length ≤ 160000 := hfl
  obtain ⟨bv, hbv⟩ : ∃ bv, fs.any (wf x) = bv := ⟨_, rfl⟩
  rw [hbv] at hfw
  have HW := Lib.hid hfw
  clear hfw hsf hrf h5 hbv
  go_wp2_with fail
  refine HS.out.mono ?_
  rintro e w5 ⟨⟨a5, c5, rfl, hA5, -⟩, hB5⟩
  have A5 := Lib.hid hA5
  have BB := Lib.hid (BB.out.trans (hB5.mono BB.out.size))
  have Sa := Lib.hid (Sa.out.below hB5)
  clear hA5 hB5 HS
  simp only []
  go_wp2_with fail
  obtain ⟨c0, c1⟩ := box_new w5 (.bool e5) (.slice a5 l5.length c5)
  have hb6 := bel1 w5 (.cells #[.bool e5, .slice a5 l5.length c5] 35)
  have A5 := Lib.hid (A5.out.below hb6)
  have BB := Lib.hid (BB.out.trans (hb6.mono BB.out.size))
  have Sa := Lib.hid (Sa.out.below hb6)
  clear hb6
  generalize w5.alloc (.cells #[.bool e5, .slice a5 l5.length c5] 35) = w6 at *
  have C0 := Lib.hid c0
  have C1 := Lib.hid c1
  have RF : Hid (∀ W, Below w6.heap.size w6 W → Calls Try.prog 29 #[.slice a n ca] W fun e w' => OutF W e w' (e5, l5)) := Lib.hid fun W hW => RFF.out W (Sa.out.below hW)
  clear c0 c1 RFF
  refine wp_region_each3 (sV a n ca x e5 a5 l5 c5 bv) (fun W => Below w6.heap.size w6 W) (fun _ A B => Below A.heap.size A B) sD [14, 15, 16, 17, 18, 19, 20, 21, 22, 23, 24, 25, 26, 27, 28, 29, 4] (by kernel_rfl) (by kernel_rfl) (by kernel_rfl) (Below.refl _ w6).drew
    (fun i j oi oj v us A B hoi hoj hij hw hSA hr hv => sV_stable hr hv) ?hgd
    ⟨?_, ?_, ?_, ?_, ?_, ?_, ?_, ?_, ?_, ?_, ?_, ?_, ?_, ?_, ?_, ?_, ?_, trivial⟩ ?hend
  case hgd =>
    intro i o g b hoi hog v us w hv
    have hi : i < 17 := (Array.getElem?_eq_some_iff.1 hoi).1
    have hc : i = 0 ∨ i = 1 ∨ i = 2 ∨ i = 3 ∨ i = 4 ∨ i = 5 ∨ i = 6 ∨ i = 7 ∨ i = 8 ∨ i = 9 ∨ i = 10 ∨ i = 11 ∨ i = 12 ∨ i = 13 ∨ i = 14 ∨ i = 15 ∨ i = 16 := by omega
    rcases hc with rfl | rfl | rfl | rfl | rfl | rfl | rfl | rfl | rfl | rfl | rfl | rfl | rfl | rfl | rfl | rfl | rfl
    all_goals (cases hoi; cases hog)
    all_goals exact hv
  case refine_1 =>
    intro a' w9 hS h0 hd
    have e5 : a'.tmps[5]?.getD undef = .bool true := evF (h0 5 (by kernel_rfl))
    refine Does2.value (.bool true) (w' := w9) ?_ ⟨rfl, hS, Below.refl _ _⟩
    clear hS h0 hd
    go_simp
  case refine_2 =>
    intro a' w9 hS h0 hd
    have e14 : a'.tmps[14]?.getD undef = .bool true := evF (hd 0 List.mem_cons_self)
    refine Does2.value (.bool true) (w' := w9) ?_ ⟨rfl, hS, Below.refl _ _⟩
    clear hS h0 hd
    go_simp
  case refine_3 =>
    intro a' w9 hS h0 hd
    have e15 : a'.tmps[15]?.getD undef = .bool true := evF (hd 1 List.mem_cons_self)
    have e6 : a'.tmps[6]?.getD undef = .pointer (some ⟨w5.heap.size, 0, none⟩) := evF (h0 6 (by kernel_rfl))
    have c0 := (hS.cell (cell_lt C0.out)).trans C0.out
    have c1 := (hS.cell (cell_lt C1.out)).trans C1.out
    refine Does2.value (.agg #[.bool e5, .slice a5 l5.length c5]) (w' := w9) ?_ ⟨rfl, hS, Below.refl _ _⟩
    clear hS h0 hd
    go_simp
  case refine_4 =>
    intro a' w9 hS h0 hd
    have e15 : a'.tmps[15]?.getD undef = .bool true := evF (hd 1 List.mem_cons_self)
    have e0 : a'.tmps[0]?.getD undef = .slice a n ca := evF (h0 0 (by kernel_rfl))
    refine Does2.value (.slice a n ca) (w' := w9) ?_ ⟨rfl, hS, Below.refl _ _⟩
    clear hS h0 hd
    go_simp
  case refine_5 =>
    intro a' w9 hS h0 hd
    have e17 : a'.tmps[17]?.getD undef = .slice a n ca := evF (hd 3 List.mem_cons_self)
    have e15 : a'.tmps[15]?.getD undef = .bool true := evF (hd 1 (List.mem_cons_of_mem _ List.mem_cons_self))
    refine Does2.call 29 #[.slice a n ca] (w' := w9) ?_ ((RF.out w9 hS).mono ?_)
    · clear hS h0 hd
      go_simp
    · rintro e w8 ⟨⟨a6, c6, rfl, hA6, -⟩, hb⟩
      exact ⟨_, rfl, ⟨a6, c6, rfl, hA6⟩, hS.trans (hb.mono hS.size), hb⟩
  case refine_6 =>
    intro a' w9 hS h0 hd
    have e16 : a'.tmps[16]?.getD undef = .agg #[.bool e5, .slice a5 l5.length c5] := evF (hd 2 List.mem_cons_self)
    obtain ⟨a6, c6, e18, hA6⟩ := hd 4 (List.mem_cons_of_mem _ List.mem_cons_self)
    replace e18 := evF e18
    have e15 : a'.tmps[15]?.getD undef = .bool true := evF (hd 1 (List.mem_cons_of_mem _ (List.mem_cons_of_mem _ List.mem_cons_self)))
    refine Does2.call 28 #[.agg #[.bool e5, .slice a5 l5.length c5], .agg #[.bool e5, .slice a6 l5.length c6]] (w' := w9) ?_ ((rSameF e5 e5 a5 a6 _ _ c5 c6 l5 l5 w9 rfl rfl (by omega) (A5.out.below hS) hA6 rfl).mono ?_)
    · clear hS h0 hd hA6
      go_simp
    · rw [decide_eq_true (rfl : l5 = l5)]
      rintro e w8 ⟨rfl, hb⟩
      exact ⟨_, rfl, rfl, hS.trans (hb.mono hS.size), hb⟩
  case refine_7 =>
    intro a' w9 hS h0 hd
    have e15 : a'.tmps[15]?.getD undef = .bool true := evF (hd 1 List.mem_cons_self)
    have e19 : a'.tmps[19]?.getD undef = .bool true := evF (hd 5 (List.mem_cons_of_mem _ List.mem_cons_self))
    refine Does2.value (.bool true) (w' := w9) ?_ ⟨rfl, hS, Below.refl _ _⟩
    clear hS h0 hd
    go_simp
  case refine_8 =>
    intro a' w9 hS h0 hd
    have e20 : a'.tmps[20]?.getD undef = .bool true := evF (hd 6 List.mem_cons_self)
    refine Does2.value (.bool true) (w' := w9) ?_ ⟨rfl, hS, Below.refl _ _⟩
    clear hS h0 hd
    go_simp
  case refine_9 =>
    intro a' w9 hS h0 hd
    have e21 : a'.tmps[21]?.getD undef = .bool true := evF (hd 7 List.mem_cons_self)
    have e6 : a'.tmps[6]?.getD undef = .pointer (some ⟨w5.heap.size, 0, none⟩) := evF (h0 6 (by kernel_rfl))
    have c0 := (hS.cell (cell_lt C0.out)).trans C0.out
    have c1 := (hS.cell (cell_lt C1.out)).trans C1.out
    refine Does2.value (.agg #[.bool e5, .slice a5 l5.length c5]) (w' := w9) ?_ ⟨rfl, hS, Below.refl _ _⟩
    clear hS h0 hd
    go_simp
  case refine_10 =>
    intro a' w9 hS h0 hd
    have e21 : a'.tmps[21]?.getD undef = .bool true := evF (hd 7 List.mem_cons_self)
    have e1 : a'.tmps[1]?.getD undef = .int .u32 x := evF (h0 1 (by kernel_rfl))
    refine Does2.value (.int .u32 x) (w' := w9) ?_ ⟨rfl, hS, Below.refl _ _⟩
    clear hS h0 hd
    go_simp
  case refine_11 =>
    intro a' w9 hS h0 hd
    have e22 : a'.tmps[22]?.getD undef = .agg #[.bool e5, .slice a5 l5.length c5] := evF (hd 8 List.mem_cons_self)
    have e23 : a'.tmps[23]?.getD undef = .int .u32 x := evF (hd 9 (List.mem_cons_of_mem _ List.mem_cons_self))
    have e21 : a'.tmps[21]?.getD undef = .bool true := evF (hd 7 (List.mem_cons_of_mem _ (List.mem_cons_of_mem _ List.mem_cons_self)))
    refine Does2.call 30 #[.agg #[.bool e5, .slice a5 l5.length c5], .int .u32 x] (w' := w9) ?_ ((sWants e5 a5 _ c5 l5 x w9 rfl (by omega) (A5.out.below hS)).mono ?_)
    · clear hS h0 hd
      go_simp
    · rw [HW.out]
      rintro e w8 ⟨rfl, hb⟩
      exact ⟨_, rfl, rfl, hS.trans (hb.mono hS.size), hb⟩
  case refine_12 =>
    intro a' w9 hS h0 hd
    have e21 : a'.tmps[21]?.getD undef = .bool true := evF (hd 7 List.mem_cons_self)
    have e6 : a'.tmps[6]?.getD undef = .pointer (some ⟨w5.heap.size, 0, none⟩) := evF (h0 6 (by kernel_rfl))
    have c0 := (hS.cell (cell_lt C0.out)).trans C0.out
    have c1 := (hS.cell (cell_lt C1.out)).trans C1.out
    refine Does2.value (.agg #[.bool e5, .slice a5 l5.length c5]) (w' := w9) ?_ ⟨rfl, hS, Below.refl _ _⟩
    clear hS h0 hd
    go_simp
  case refine_13 =>
    intro a' w9 hS h0 hd
    have e21 : a'.tmps[21]?.getD undef = .bool true := evF (hd 7 List.mem_cons_self)
    have e1 : a'.tmps[1]?.getD undef = .int .u32 x := evF (h0 1 (by kernel_rfl))
    refine Does2.value (.int .u32 x) (w' := w9) ?_ ⟨rfl, hS, Below.refl _ _⟩
    clear hS h0 hd
    go_simp
  case refine_14 =>
    intro a' w9 hS h0 hd
    have e25 : a'.tmps[25]?.getD undef = .agg #[.bool e5, .slice a5 l5.length c5] := evF (hd 11 List.mem_cons_self)
    have e26 : a'.tmps[26]?.getD undef = .int .u32 x := evF (hd 12 (List.mem_cons_of_mem _ List.mem_cons_self))
    have e21 : a'.tmps[21]?.getD undef = .bool true := evF (hd 7 (List.mem_cons_of_mem _ (List.mem_cons_of_mem _ List.mem_cons_self)))
    refine Does2.call 31 #[.agg #[.bool e5, .slice a5 l5.length c5], .int .u32 x] (w' := w9) ?_ ((rWants e5 a5 _ c5 l5 x w9 rfl (by omega) (A5.out.below hS)).mono ?_)
    · clear hS h0 hd
      go_simp
    · rw [HW.out]
      rintro e w8 ⟨rfl, hb⟩
      exact ⟨_, rfl, rfl, hS.trans (hb.mono hS.size), hb⟩
  case refine_15 =>
    intro a' w9 hS h0 hd
    have e24 : a'.tmps[24]?.getD undef = .bool bv := evF (hd 10 List.mem_cons_self)
    have e27 : a'.tmps[27]?.getD undef = .bool bv := evF (hd 13 (List.mem_cons_of_mem _ List.mem_cons_self))
    have e21 : a'.tmps[21]?.getD undef = .bool true := evF (hd 7 (List.mem_cons_of_mem _ (List.mem_cons_of_mem _ List.mem_cons_self)))
    refine Does2.value (.bool true) (w' := w9) ?_ ⟨rfl, hS, Below.refl _ _⟩
    clear hS h0 hd
    cases bv
    all_goals
      go_simp
  case refine_16 =>
    intro a' w9 hS h0 hd
    have e21 : a'.tmps[21]?.getD undef = .bool true := evF (hd 7 List.mem_cons_self)
    have e28 : a'.tmps[28]?.getD undef = .bool true := evF (hd 14 (List.mem_cons_of_mem _ List.mem_cons_self))
    refine Does2.value (.bool true) (w' := w9) ?_ ⟨rfl, hS, Below.refl _ _⟩
    clear hS h0 hd
    go_simp
  case refine_17 =>
    intro a' w9 hS h0 hd
    have e29 : a'.tmps[29]?.getD undef = .bool true := evF (hd 15 List.mem_cons_self)
    refine Does2.value (.bool true) (w' := w9) ?_ ⟨rfl, hS, Below.refl _ _⟩
    clear hS h0 hd
    go_simp
  case hend =>
    intro f w9 hS hv
    have v16 := hv 16 (by decide)
    replace v16 : f 4 = .bool true := v16
    simp only [putAll, Act.put, List.setIfInBounds_toArray, List.set_cons_zero, List.set_cons_succ, v16]
    have HB9 := Lib.hid (BB.out.trans (hS.mono BB.out.size))
    clear hS hv v16
    go_wp2_with fail
    go_ret
    exact ⟨rfl, HB9.out⟩
theorem walk (w : World) (a : Option Addr) (ca : Nat) (fs : List Flt) (sa : Fls w a fs) (na : fs.length ≤ 1125899906842624) (la : ∀ f ∈ fs, f.srcs.length ≤ 1125899906842624) (za : a = none → ca = 0) (x : Int) (hx : 0 ≤ x ∧ x ≤ 4294967295) :
    Calls Try.prog 4 #[.slice a fs.length ca, .int .u32 x] w fun e w' => e = .returned (.bool true) ∧ Below w.heap.size w w' := by
  by_cases q : okF fs
  · exact walk1 w a ca fs sa na la za x hx q
  · exact walk0 w a ca fs sa na la za x hx q

theorem contract (H : Type) (enc : TypeId × Value → H) (W : World) (base : Nat) (args : Array Value) (ds gs : List (DataW H)) (before : List MemPlace)
    (hval : ∀ (j : Nat) t v, Try.f4.params[j]? = some t → args[j]? = some v → Value.okWide Try.prog W .any base t v)
    (hW : DataW.Whole enc Try.prog Try.f4.params.toList Rows.setFiltersSpec.vars false W args.toList ds gs before) (hsz : (DataW.weightsEach Try.prog (Try.f4.params.toList ++ Rows.setFiltersSpec.plain.varTypes Try.prog) (ds ++ gs)).all (· ≤ reachBytes) = true) :
    Calls Try.prog 4 args W fun e W' => ∃ v, e = .returned v ∧ Rows.setFiltersSpec.post enc Try.prog Try.f4 false true false false W args v W' := by
  have hW' := hW
  obtain ⟨p, q, hA0, hV, rfl, hfz, hnd⟩ := hW
  have hA : DataW.TrodAll enc Try.prog W 0 (fun _ => true) true Try.f4.params.toList args.toList ds p := hA0
  rw [Try.params4] at hA hval
  obtain ⟨v0, vs0, d0, ds0, p0, q0, hargs, rfl, rfl, h0, r0⟩ := trodAll_cons hA
  obtain ⟨v1, vs1, d1, ds1, p1, q1, rfl, rfl, rfl, h1, r1⟩ := trodAll_cons r0
  obtain ⟨rfl, rfl, rfl⟩ := trodAll_nil r1
  obtain rfl : args = #[v0, v1] := by cases args; simp_all
  obtain ⟨rfl, rfl⟩ := trodVars_none hV
  have k0 := h0
  have lt0 : ∀ x ∈ p0, x.block < W.heap.size := by obtain ⟨m, hm⟩ := k0; exact DataW.trod_lt m _ _ _ hm
  have k1 := h1
  have lt1 : ∀ x ∈ p1, x.block < W.heap.size := by obtain ⟨m, hm⟩ := k1; exact DataW.trod_lt m _ _ _ hm
  obtain ⟨a0, c0, x0, rfl, s0, n0, l0, z0⟩ := open_flts (hval 0 32 v0 rfl rfl) h0 (fun x hx => by simpa using List.all_eq_true.1 hsz _ (DataW.weights_mem_each (j := 0) rfl rfl x hx))
  obtain ⟨a1, rfl, rfl, rfl, w1⟩ := open_int Try.underlying24 (hval 1 24 v1 rfl rfl) h1
  clear hA0
  refine (walk W a0 c0 x0 s0 n0 l0 z0 a1 (bounds_u32 w1)).mono fun e W' ⟨he, bel⟩ => ?_
  subst he
  exact ⟨_, rfl, _, _, _, [], _, [], hW', trodAll_mk1 (shut_bool Try.underlying4 _), (trodAll_cons_mk (Below.trod laidOut (by kernel_rfl) (of_decide_eq_true (by kernel_rfl)) k0 bel lt0) (trodAll_cons_mk (Below.trod laidOut (by kernel_rfl) (of_decide_eq_true (by kernel_rfl)) k1 bel lt1) trodAll_mk0)), rfl, bel.frame _, fun h => by cases h⟩

set_option maxRecDepth 100000 in
theorem lifted (os : Os) (started : os.Started) (H : Type) (enc : TypeId × Value → H) :
    ReturnsInHanded {} Try.checked os 4 .any (Rows.setFiltersSpec.pre6 enc Try.prog Try.f4 Rows.setFiltersRow.domain false) (Rows.setFiltersSpec.post enc Try.prog Try.f4 false true false false) := by
  refine returnsInHanded_of_change_sized (C := Try.checked) own started (by kernel_rfl) Try.func4
    (ChangeSpec.witness6 (enc := enc) (C := Try.checked) false ⟨#[], #[(.slice none 0 0), (.int .u32 0)], []⟩ 8 (by kernel_rfl) (by kernel_rfl) (by kernel_rfl) (by kernel_rfl)) ?_
  intro W base args ds gs before hval hW hcnd hsz _
  exact contract H enc W base args ds gs before hval hW hsz
theorem said : Rows.SetFiltersSaid :=
  OpenClaim.holds_of_wide 4 Try.f4 rfl rfl rfl rfl rfl rfl rfl ⟨rfl, rfl, rfl, rfl, rfl⟩ rfl rfl rfl rfl rfl (by kernel_rfl) Try.func4 (by kernel_rfl)
    (of_decide_eq_true (by kernel_rfl)) (by unfold Func.isWrapper; first | (rw [if_pos (by decide +kernel)]; kernel_rfl) | (rw [if_neg (by decide +kernel)]; exact ⟨rfl, rfl⟩))
    (fun os started H enc _ => lifted os started H enc)
#print axioms said
end Go.Proofs.Ytikanaabecmkcaa.setFilters
