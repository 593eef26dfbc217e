/- Exclude. -/
import Derived.Test.YtllpmepmgnnoaaaGreatVf
import Derived.Test.YtllpmepmgnnoaaaGreatVr
namespace Go.Proofs.YtllpmepmgnnoaaaGreat
set_option linter.unusedVariables false
open Go.RowKit

theorem vev {a : Act} {t : Nat} {v : Value} (h : a.eval (.tmp t) = v) : a.tmps[t]?.getD undef = v := by simpa [Act.eval] using h
theorem vown_as {w : World} {B : Nat} {a : Option Addr} {c : Nat} {xs : List Int} (h : w.ownsRow B 25 1 (.slice a xs.length c) xs.length (va xs)) (hA : IsA xs) : As w a xs := (AsO.of rfl h).as hA
def exV (N : Nat) (W0 : World) (a : Option Addr) (n c : Nat) (b : Option Addr) (ln lc : Nat) (s : List Hd) (xs : List Int) : Nat → Value → List Value → World → Prop
  | 0, v, _, _ => v = .slice b ln lc
  | 1, v, _, _ => v = .pointer (some ⟨N, 0, none⟩)
  | 2, v, _, _ => v = .pointer (some ⟨N, 3, none⟩)
  | 3, v, _, _ => v = .slice a n c
  | 4, v, _, w => ∃ (a12 : Option Addr) (c12 : Nat), v = .slice a12 (ad s).length c12 ∧ As w a12 (ad s)
  | 5, v, _, w => ∃ (a13 : Option Addr) (c13 : Nat), v = .slice a13 (dif xs (ad s)).length c13 ∧ w.ownsRow 0 25 1 (.slice a13 (dif xs (ad s)).length c13) (dif xs (ad s)).length (va (dif xs (ad s))) ∧ Below W0.heap.size W0 w
  | 6, v, _, w => ∃ (a13 : Option Addr) (c13 : Nat), v = .slice a13 (dif xs (ad s)).length c13 ∧ w.ownsRow 0 25 1 (.slice a13 (dif xs (ad s)).length c13) (dif xs (ad s)).length (va (dif xs (ad s))) ∧ Below W0.heap.size W0 w
  | _, _, _, _ => True
def exD : Nat → List Nat
  | 2 => [1]
  | 3 => [2]
  | 4 => [3]
  | 5 => [0, 4]
  | 6 => [5]
  | _ => []
theorem ex_st (N : Nat) (W0 : World) (a : Option Addr) (n c : Nat) (b : Option Addr) (ln lc : Nat) (s : List Hd) (xs : List Int) {i : Nat} {v : Value} {us : List Value} {w w' : World} (hr : Below w.heap.size w w') (hv : exV N W0 a n c b ln lc s xs i v us w) : exV N W0 a n c b ln lc s xs i v us w' := by
  unfold exV at hv ⊢
  split at hv
  all_goals first
    | exact hv
    | (obtain ⟨x, y, e, h⟩ := hv; exact ⟨x, y, e, h.below hr⟩)
    | (obtain ⟨x, y, e, h, k⟩ := hv; exact ⟨x, y, e, own_grown h hr (Nat.le_refl _), k.trans (hr.mono k.size)⟩)
set_option maxRecDepth 100000 in
set_option maxHeartbeats 16000000 in
theorem mExclude (g : Int) (ex : Bool) (left : Int) (a : Option Addr) (n c : Nat) (kp la : Int) (aq : Option Addr) (nq cq : Nat) (s : List Hd) (b : Option Addr) (ln lc : Nat) (xs : List Int) (T : Int) (w : World)
    (hx : s.length = n) (hn : n ≤ 10000) (hH : Hs w a s) (hi : Inc (ad s)) (hl : xs.length = ln) (hln : ln ≤ 10000) (hA : As w b xs) (hxi : Inc xs) (hT : -9223372036854775808 ≤ T ∧ T ≤ 9223372036854775807) :
    Calls Tryz.prog 61 #[.agg #[.int .u32 g, .bool ex, .int .i64 left, .slice a n c, .int .i64 kp, .int .i64 la, .slice aq nq cq], .slice b ln lc, .int .i64 T] w fun e w' =>
      OutHr w e w' g true kp (keepS (s.filter fun x => decide (x.1 ∈ xs)) (dif xs (ad s)) T) kp la (.slice aq nq cq) := by
  have hn : n ≤ 100000 := by omega
  have HX := Lib.hid hx
  have HH := Lib.hid hH
  have HI := Lib.hid hi
  have HL := Lib.hid hl
  have HA := Lib.hid hA
  have HXI := Lib.hid hxi
  have HT := Lib.hid hT
  clear hx hH hi hl hA hxi hT
  obtain ⟨w3, hw3⟩ : ∃ w3, w3 = ((w.alloc (.cells #[.int .u32 g, .bool ex, .int .i64 left, .slice a n c, .int .i64 kp, .int .i64 la, .slice aq nq cq] 58)).alloc (.cells #[.slice b ln lc] 29)).alloc (.cells #[.int .u32 0, .bool false, .int .i64 0, .slice none 0 0, .int .i64 0, .int .i64 0, .slice none 0 0] 58) := ⟨_, rfl⟩
  obtain ⟨hs3, v0, l1, v2, hB3⟩ := mk3 w g ex left a n c kp la aq nq cq b ln lc w3 hw3
  have HS3 := Lib.hid hs3
  have HB3 := Lib.hid hB3
  have V0 := Lib.hid v0
  have L1 := Lib.hid l1
  have V2 := Lib.hid v2
  have HH3 := Lib.hid (HH.out.below HB3.out)
  have HA3 := Lib.hid (HA.out.below HB3.out)
  clear hs3 v0 l1 v2 hB3
  go_enter Tryz.func61, Tryz.ntmps61
  go_wp2
  rw [← hw3]
  clear hw3
  refine wp_region_last (exV w.heap.size w3 a n c b ln lc s xs) (fun W => Below w3.heap.size w3 W) (fun _ A B => Below A.heap.size A B) exD [8, 9, 10, 11, 12, 13, 7] (by kernel_rfl) (by kernel_rfl) (by kernel_rfl) (by kernel_rfl) (by kernel_rfl) (by decide) (Below.refl _ w3).drew
    (fun i j oi oj v us A B hoi hoj hij hni hw hSA hr hv => ex_st _ _ _ _ _ _ _ _ _ _ hr hv)
    ⟨?_, ?_, ?_, ?_, ?_, ?_, ?_, trivial⟩ ?hend
  case refine_1 =>
    intro a' w9 hS h0 hd
    have e4 : a'.tmps[4]?.getD undef = .pointer (some ⟨w.heap.size + 1, 0, none⟩) := vev (h0 4 (by kernel_rfl))
    have c0 := (hS.cell (cell_lt L1.out)).trans L1.out
    refine Does2.value (.slice b ln lc) (w' := w9) ?_ ⟨rfl, fun _ => ⟨hS, Below.refl _ _⟩⟩
    clear hS h0 hd
    go_simp
  case refine_2 =>
    intro a' w9 hS h0 hd
    have e3 : a'.tmps[3]?.getD undef = .pointer (some ⟨w.heap.size, 0, none⟩) := vev (h0 3 (by kernel_rfl))
    refine Does2.value (.pointer (some ⟨w.heap.size, 0, none⟩)) (w' := w9) ?_ ⟨rfl, fun _ => ⟨hS, Below.refl _ _⟩⟩
    clear hS h0 hd
    go_simp
  case refine_3 =>
    intro a' w9 hS h0 hd
    have e9 : a'.tmps[9]?.getD undef = .pointer (some ⟨w.heap.size, 0, none⟩) := vev (hd 1 List.mem_cons_self)
    refine Does2.value (.pointer (some ⟨w.heap.size, 3, none⟩)) (w' := w9) ?_ ⟨rfl, fun _ => ⟨hS, Below.refl _ _⟩⟩
    clear hS h0 hd
    go_simp
  case refine_4 =>
    intro a' w9 hS h0 hd
    have e10 : a'.tmps[10]?.getD undef = .pointer (some ⟨w.heap.size, 3, none⟩) := vev (hd 2 List.mem_cons_self)
    obtain ⟨c0, c1, c2, c3, c4, c5, c6, f0, f1, f2, f3, f4, f5, f6⟩ := (V0.out.below hS V0.out.lt).cells
    refine Does2.value (.slice a n c) (w' := w9) ?_ ⟨rfl, fun _ => ⟨hS, Below.refl _ _⟩⟩
    clear hS h0 hd
    go_simp
  case refine_5 =>
    intro a' w9 hS h0 hd
    have e11 : a'.tmps[11]?.getD undef = .slice a n c := vev (hd 3 List.mem_cons_self)
    refine Does2.call 33 #[.slice a n c] (w' := w9) ?_ ((mAddrs a n c s w9 HX.out hn (HH3.out.below hS)).mono ?_)
    · clear hS h0 hd
      go_simp
    · rintro e w8 ⟨⟨a8, c8, rfl, hA8, hf8, ho8⟩, hb⟩
      exact ⟨_, rfl, ⟨a8, c8, rfl, hA8⟩, fun _ => ⟨hS.trans (hb.mono hS.size), hb⟩⟩
  case refine_6 =>
    intro a' w9 hS h0 hd
    have e8 : a'.tmps[8]?.getD undef = .slice b ln lc := vev (hd 0 List.mem_cons_self)
    obtain ⟨a12, c12, e12, h12⟩ := hd 4 (List.mem_cons_of_mem _ List.mem_cons_self)
    replace e12 := vev e12
    refine Does2.call 63 #[.slice b ln lc, .slice a12 (ad s).length c12] (w' := w9) ?_ ((vMinus b a12 ln _ lc c12 xs (ad s) w9 HL.out rfl (by omega) (by rw [ad_len, HX.out]; omega) (HA3.out.below hS) h12).mono ?_)
    · clear hS h0 hd
      go_simp
    · rintro e w8 ⟨⟨a8, c8, rfl, hA8, hf8, ho8⟩, hb⟩
      exact ⟨_, rfl, ⟨a8, c8, rfl, vown_le ho8 (Nat.zero_le _), hS.trans (hb.mono hS.size)⟩, fun _ => ⟨hS.trans (hb.mono hS.size), hb⟩⟩
  case refine_7 =>
    intro a' w9 hS h0 hd
    obtain ⟨a13, c13, e13, h13, h14⟩ := hd 5 List.mem_cons_self
    replace e13 := vev e13
    refine Does2.value (.slice a13 (dif xs (ad s)).length c13) (w' := w9) ?_ ⟨⟨a13, c13, rfl, h13, h14⟩, fun h => absurd rfl h⟩
    clear hS h0 hd h13 h14
    go_simp
  case hend =>
    intro f w9 hv
    obtain ⟨a7, c7, v7, h7, hB7⟩ := hv
    replace v7 : f 7 = .slice a7 (dif xs (ad s)).length c7 := v7
    simp only [putAll, Act.put, List.setIfInBounds_toArray, List.set_cons_zero, List.set_cons_succ, v7]
    have V09 := Lib.hid (V0.out.below hB7 V0.out.lt)
    have V29 := Lib.hid (V2.out.below hB7 V2.out.lt)
    have L19 := Lib.hid ((hB7.cell (cell_lt L1.out)).trans L1.out)
    have HB9 := Lib.hid (HB3.out.trans (hB7.mono HB3.out.size))
    have HO7 := Lib.hid h7
    have HZ9 : Hid (w.heap.size + 3 ≤ w9.heap.size) := Lib.hid (by have := hB7.size; have := HS3.out; omega)
    clear v7 h7 hB7 V0 V2 L1 HB3 HH3 HA3
    obtain ⟨c0, c1, c2, c3, c4, c5, c6, f0, f1, f2, f3, f4, f5, f6⟩ := V09.out.cells
    go_wp2_with fail
    have BS := (But1.set w9 w.heap.size 1 (.bool true)).trans (But1.set _ w.heap.size 2 (.int .i64 kp))
    have VS := Lib.hid ((V09.out.set1 true).set2 kp)
    have V2S := Lib.hid (V29.out.but BS (by omega))
    have L1S := Lib.hid ((BS.cell (cell_lt L19.out) (by show w.heap.size + 1 ≠ w.heap.size; omega)).trans L19.out)
    have HOS := Lib.hid (vown_ty HO7.out V09.out (by decide) BS)
    have HBS := Lib.hid (HB9.out.trans (BS.below (Nat.le_refl _) HB9.out.size))
    have HZS : Hid (w.heap.size + 3 ≤ ((w9.setCell ⟨w.heap.size, 1, none⟩ (.bool true)).setCell ⟨w.heap.size, 2, none⟩ (.int .i64 kp)).heap.size) := Lib.hid (Nat.le_trans HZ9.out BS.size)
    clear c0 c1 c2 c3 c4 c5 c6 f0 f1 f2 f3 f4 f5 f6 BS V09 V29 L19 HO7 HB9 HZ9
    generalize (w9.setCell ⟨w.heap.size, 1, none⟩ (.bool true)).setCell ⟨w.heap.size, 2, none⟩ (.int .i64 kp) = w10 at *
    refine (mThoseX (.pointer (some ⟨w.heap.size + 1, 0, none⟩)) (fun x => decide (x.1 ∈ xs)) a n c s w10 HX.out hn (HH.out.below HBS.out) (fun w1 x hb _ => cEx (w.heap.size + 1) b ln lc xs x w1 HL.out (by omega) ((hb.cell (cell_lt L1S.out)).trans L1S.out) ((HA.out.below HBS.out).below hb))).mono ?_
    rintro e w11 ⟨⟨a11, c11, rfl, ho11⟩, hb11⟩
    have HS11 := Lib.hid (own_hs ho11 rfl (ins_filter _ HH.out.2))
    have V011 := Lib.hid (VS.out.below hb11 VS.out.lt)
    have V211 := Lib.hid (V2S.out.below hb11 V2S.out.lt)
    have HO11 := Lib.hid (own_grown HOS.out hb11 (Nat.le_refl _))
    have HB11 := Lib.hid (HBS.out.trans (hb11.mono HBS.out.size))
    have hfl : (s.filter fun x => decide (x.1 ∈ xs)).length ≤ 100000 := Nat.le_trans (List.length_filter_le _ _) (by rw [HX.out]; exact hn)
    clear ho11 hb11 VS V2S HOS HBS HZS L1S
    obtain ⟨c0, c1, c2, c3, c4, c5, c6, f0, f1, f2, f3, f4, f5, f6⟩ := V011.out.cells
    go_wp2_with fail
    have BS := But1.set w11 w.heap.size 3 (.slice a11 (s.filter fun x => decide (x.1 ∈ xs)).length c11)
    have VS := Lib.hid (V011.out.set3 a11 (s.filter fun x => decide (x.1 ∈ xs)).length c11)
    have V2S := Lib.hid (V211.out.but BS (by omega))
    have HSS := Lib.hid (HS11.out.other V011.out.noH BS)
    have HOS := Lib.hid (vown_as (vown_ty HO11.out V011.out (by decide) BS) (those_isA HA.out.2 (isA_iff.2 (ins_ad HH.out.2))))
    have HBS := Lib.hid (HB11.out.trans (BS.below (Nat.le_refl _) HB11.out.size))
    clear c0 c1 c2 c3 c4 c5 c6 f0 f1 f2 f3 f4 f5 f6 BS V011 V211 HO11 HB11 HS11
    generalize w11.setCell ⟨w.heap.size, 3, none⟩ (.slice a11 (s.filter fun x => decide (x.1 ∈ xs)).length c11) = w12 at *
    refine (mKeep g true kp a11 _ c11 kp la aq nq cq _ a7 _ c7 (dif xs (ad s)) T w12 rfl hfl HSS.out (ad_filter_inc _ HI.out) rfl (Nat.le_trans (those_len _ _ _) (by rw [ad_len, HX.out, HL.out]; omega)) HOS.out (dif_inc HXI.out HI.out) HT.out).mono ?_
    rintro e w13 ⟨⟨a13, c13, rfl, hH13⟩, hb13⟩
    have H13 := Lib.hid hH13
    have V213 := Lib.hid (V2S.out.below hb13 V2S.out.lt)
    have HB13 := Lib.hid (HBS.out.trans (hb13.mono HBS.out.size))
    clear hH13 hb13 V2S HBS HSS HOS VS
    obtain ⟨c0, c1, c2, c3, c4, c5, c6, f0, f1, f2, f3, f4, f5, f6⟩ := V213.out.cells
    go_wp2_with fail
    refine ret_cell1 (p := 6) rfl rfl rfl (V213.out.store g true kp a13 _ c13 kp la aq nq cq).load ?_
    have BS := V213.out.store_but g true kp a13 (keepS (s.filter fun x => decide (x.1 ∈ xs)) (dif xs (ad s)) T).length c13 kp la aq nq cq
    exact ⟨⟨a13, c13, rfl, H13.out.other V213.out.noH BS⟩, HB13.out.trans (BS.below (by omega) HB13.out.size)⟩
end Go.Proofs.YtllpmepmgnnoaaaGreat
