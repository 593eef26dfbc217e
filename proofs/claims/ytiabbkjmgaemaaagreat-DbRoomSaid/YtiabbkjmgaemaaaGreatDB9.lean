/- What each type of records does. -/
import Derived.Test.YtiabbkjmgaemaaaGreatDB0
import Derived.Test.YtiabbkjmgaemaaaGreatDB1
import Derived.Test.YtiabbkjmgaemaaaGreatDB2
import Derived.Test.YtiabbkjmgaemaaaGreatDB3
import Derived.Test.YtiabbkjmgaemaaaGreatDB4
import Derived.Test.YtiabbkjmgaemaaaGreatDB5
import Derived.Test.YtiabbkjmgaemaaaGreatDB6
import Derived.Test.YtiabbkjmgaemaaaGreatDB7
import Derived.Test.YtiabbkjmgaemaaaGreatDB8
namespace Go.Proofs.YtiabbkjmgaemaaaGreat
set_option linter.unusedVariables false
open Go.RowKit

def exS (s : List Hd) (xs : List Int) (T : Int) : List Hd := keepS (s.filter fun x => decide (x.1 ∈ xs)) (dif xs (ad s)) T
def wantS (s : List Hd) : List Int := ad (s.filter fun x => decide (0 < x.2))
theorem exS_inc {s : List Hd} {xs : List Int} (T : Int) (h : Inc (ad s)) (hx : Inc xs) : Inc (ad (exS s xs T)) := keepS_inc _ (ad_filter_inc _ h) (dif_inc hx h)
theorem wantS_inc {s : List Hd} (h : Inc (ad s)) : Inc (wantS s) := ad_filter_inc _ h
theorem wantS_len (s : List Hd) : (wantS s).length ≤ s.length := by unfold wantS; rw [ad_len]; exact List.length_filter_le _ _
theorem exS_len (s : List Hd) (xs : List Int) (T : Int) : (exS s xs T).length ≤ 2 * s.length + xs.length := by
  have h1 := keepS_len (s.filter fun x => decide (x.1 ∈ xs)) (dif xs (ad s)) T
  have h2 := List.length_filter_le (fun x : Hd => decide (x.1 ∈ xs)) s
  have h3 := those_len (fun p q => p && !q) xs (ad s)
  rw [ad_len] at h3
  unfold exS dif at *
  omega
theorem askS_inc {s : List Hd} {xs : List Int} (la : Int) (h : Inc (ad s)) (hx : Inc xs) : Inc (ad (askS s la xs)) := by
  unfold askS
  split
  · exact h
  · exact keepS_inc _ h (int_inc hx (ad_filter_inc _ h))
theorem askQ_len (g : Int) (xs : List Int) : (askQ g xs).length ≤ 1 := by unfold askQ; split <;> simp
set_option maxRecDepth 100000 in
set_option maxHeartbeats 16000000 in
theorem mAllow (g : Int) (ex : Bool) (left : Int) (a : Option Addr) (n c : Nat) (kp la : Int) (s : List Hd) (b : Option Addr) (ln lc : Nat) (xs : List Int) (w : World)
    (hx : s.length = n) (hn : n ≤ 4000) (hH : HT w a s) (hi : Inc (ad s)) (hl : xs.length = ln) (hln : ln ≤ 4000) (hA : As w b xs) (hxi : Inc xs) (hT : (1 ≤ la ∧ la ≤ 1000000) ∧ (0 ≤ kp ∧ kp ≤ 1000000) ∧ (0 ≤ left ∧ left ≤ 1000000) ∧ (0 ≤ g ∧ g ≤ 4294967295)) :
    Calls Tryz.prog 75 #[.agg #[.int .u32 g, .bool ex, .int .i64 left, .slice a n c, .int .i64 kp, .int .i64 la, .slice none 0 0], .slice b ln lc] w fun e w' =>
      OutA w e w' g ex left (keepS s xs kp) kp la [] := by
  have HX := Lib.hid hx
  have HH := Lib.hid hH
  have HI := Lib.hid hi
  have HL := Lib.hid hl
  have HA := Lib.hid hA
  have HXI := Lib.hid hxi
  have HT := Lib.hid hT
  clear hx hH hi hl hA hxi hT
  obtain ⟨w2, hw2⟩ : ∃ w2, w2 = (w.alloc (.cells #[.int .u32 g, .bool ex, .int .i64 left, .slice a n c, .int .i64 kp, .int .i64 la, .slice none 0 0] 95)).alloc (.cells #[.int .u32 0, .bool false, .int .i64 0, .slice none 0 0, .int .i64 0, .int .i64 0, .slice none 0 0] 95) := ⟨_, rfl⟩
  obtain ⟨hs2, v0, v1, hB2⟩ := mk2 w g ex left a n c kp la none 0 0 w2 hw2
  have HS2 := Lib.hid hs2
  have HB2 := Lib.hid hB2
  have V0 := Lib.hid v0
  have V1 := Lib.hid v1
  clear hs2 v0 v1 hB2
  go_enter Tryz.func75, Tryz.ntmps75
  go_wp2_with fail
  rw [← hw2]
  clear hw2
  refine (mKeep g ex left a n c kp la none 0 0 s b ln lc xs kp w2 HX.out (by omega) (HH.out.1.below HB2.out) HI.out HL.out (by omega) (HA.out.below HB2.out) HXI.out (by have := HT.out; omega)).mono ?_
  rintro e w3 ⟨⟨a3, c3, rfl, hH3⟩, hb3⟩
  have H3 := Lib.hid hH3
  have V13 := Lib.hid (V1.out.below hb3 V1.out.lt)
  have HB3 := Lib.hid (HB2.out.trans (hb3.mono HB2.out.size))
  clear hH3 hb3 V0 V1 HB2
  obtain ⟨d0, d1, d2, d3, d4, d5, d6, e0, e1, e2, e3, e4, e5, e6⟩ := V13.out.cells
  go_wp2_with fail
  refine ret_cell1 (p := 4) rfl rfl rfl (V13.out.store g ex left a3 _ c3 kp la none 0 0).load ?_
  have BS := V13.out.store_but g ex left a3 (keepS s xs kp).length c3 kp la none 0 0
  exact ⟨⟨a3, c3, none, 0, [], rfl, H3.out.other V13.out.noH BS, rfl, Qs.nil _ _⟩, HB3.out.trans (BS.below (by omega) HB3.out.size)⟩
set_option maxRecDepth 100000 in
set_option maxHeartbeats 16000000 in
theorem mIsEx (g : Int) (ex : Bool) (left : Int) (a : Option Addr) (n c : Nat) (kp la : Int) (s : List Hd) (b : Option Addr) (ln lc : Nat) (xs : List Int) (w : World)
    (hx : s.length = n) (hn : n ≤ 4000) (hH : HT w a s) (hi : Inc (ad s)) (hl : xs.length = ln) (hln : ln ≤ 4000) (hA : As w b xs) (hxi : Inc xs) (hT : (1 ≤ la ∧ la ≤ 1000000) ∧ (0 ≤ kp ∧ kp ≤ 1000000) ∧ (0 ≤ left ∧ left ≤ 1000000) ∧ (0 ≤ g ∧ g ≤ 4294967295)) :
    Calls Tryz.prog 76 #[.agg #[.int .u32 g, .bool ex, .int .i64 left, .slice a n c, .int .i64 kp, .int .i64 la, .slice none 0 0], .slice b ln lc] w fun e w' =>
      OutA w e w' g true kp (exS s xs (if ex then kp else 0)) kp la [] := by
  have HX := Lib.hid hx
  have HH := Lib.hid hH
  have HI := Lib.hid hi
  have HL := Lib.hid hl
  have HA := Lib.hid hA
  have HXI := Lib.hid hxi
  have HT := Lib.hid hT
  clear hx hH hi hl hA hxi hT
  obtain ⟨w2, hw2⟩ : ∃ w2, w2 = (w.alloc (.cells #[.int .u32 g, .bool ex, .int .i64 left, .slice a n c, .int .i64 kp, .int .i64 la, .slice none 0 0] 95)).alloc (.cells #[.int .u32 0, .bool false, .int .i64 0, .slice none 0 0, .int .i64 0, .int .i64 0, .slice none 0 0] 95) := ⟨_, rfl⟩
  obtain ⟨hs2, v0, v1, hB2⟩ := mk2 w g ex left a n c kp la none 0 0 w2 hw2
  have HS2 := Lib.hid hs2
  have HB2 := Lib.hid hB2
  have V0 := Lib.hid v0
  have V1 := Lib.hid v1
  clear hs2 v0 v1 hB2
  go_enter Tryz.func76, Tryz.ntmps76
  cases ex
  · simp only [Bool.false_eq_true, if_false]
    go_wp2_with fail
    rw [← hw2]
    clear hw2
    refine (mExclude g false left a n c kp la none 0 0 s b ln lc xs 0 w2 HX.out (by omega) (HH.out.1.below HB2.out) HI.out HL.out (by omega) (HA.out.below HB2.out) HXI.out (by have := HT.out; omega)).mono ?_
    rintro e w3 ⟨⟨a3, c3, rfl, hH3⟩, hb3⟩
    have H3 := Lib.hid hH3
    have V13 := Lib.hid (V1.out.below hb3 V1.out.lt)
    have HB3 := Lib.hid (HB2.out.trans (hb3.mono HB2.out.size))
    clear hH3 hb3 V0 V1 HB2
    obtain ⟨d0, d1, d2, d3, d4, d5, d6, e0, e1, e2, e3, e4, e5, e6⟩ := V13.out.cells
    go_wp2_with fail
    refine ret_cell1 (p := 4) rfl rfl rfl (V13.out.store g true kp a3 _ c3 kp la none 0 0).load ?_
    have BS := V13.out.store_but g true kp a3 (exS s xs 0).length c3 kp la none 0 0
    exact ⟨⟨a3, c3, none, 0, [], rfl, H3.out.other V13.out.noH BS, rfl, Qs.nil _ _⟩, HB3.out.trans (BS.below (by omega) HB3.out.size)⟩
  · simp only [if_true]
    go_wp2_with fail
    rw [← hw2]
    clear hw2
    refine (mExclude g true left a n c kp la none 0 0 s b ln lc xs kp w2 HX.out (by omega) (HH.out.1.below HB2.out) HI.out HL.out (by omega) (HA.out.below HB2.out) HXI.out (by have := HT.out; omega)).mono ?_
    rintro e w3 ⟨⟨a3, c3, rfl, hH3⟩, hb3⟩
    have H3 := Lib.hid hH3
    have V13 := Lib.hid (V1.out.below hb3 V1.out.lt)
    have HB3 := Lib.hid (HB2.out.trans (hb3.mono HB2.out.size))
    clear hH3 hb3 V0 V1 HB2
    obtain ⟨d0, d1, d2, d3, d4, d5, d6, e0, e1, e2, e3, e4, e5, e6⟩ := V13.out.cells
    go_wp2_with fail
    refine ret_cell1 (p := 4) rfl rfl rfl (V13.out.store g true kp a3 _ c3 kp la none 0 0).load ?_
    have BS := V13.out.store_but g true kp a3 (exS s xs kp).length c3 kp la none 0 0
    exact ⟨⟨a3, c3, none, 0, [], rfl, H3.out.other V13.out.noH BS, rfl, Qs.nil _ _⟩, HB3.out.trans (BS.below (by omega) HB3.out.size)⟩
def teV (N : Nat) (g : Int) (ex : Bool) (left : Int) (a : Option Addr) (n c : Nat) (kp la : Int) (b : Option Addr) (ln lc : Nat) (s : List Hd) (xs : List Int) (W0 : World) : Nat → Value → List Value → World → Prop
  | 0, v, _, _ => v = .agg #[.int .u32 g, .bool ex, .int .i64 left, .slice a n c, .int .i64 kp, .int .i64 la, .slice none 0 0]
  | 1, v, _, _ => v = .agg #[.int .u32 g, .bool ex, .int .i64 left, .slice a n c, .int .i64 kp, .int .i64 la, .slice none 0 0]
  | 2, v, _, w => ∃ (a13 : Option Addr) (c13 : Nat), v = .slice a13 (wantS s).length c13 ∧ As w a13 (wantS s) ∧ w.ownsRow 0 25 1 (.slice a13 (wantS s).length c13) (wantS s).length (va (wantS s))
  | 3, v, _, w => ∃ (a33 : Option Addr) (c33 : Nat) (aa : Option Addr) (cc : Nat) (rs : List Qr), v = .agg #[.int .u32 g, .bool ex, .int .i64 left, .slice a33 (askS s la (wantS s)).length c33, .int .i64 kp, .int .i64 la, .slice aa (List.length rs) cc] ∧ HT w a33 (askS s la (wantS s)) ∧ rs.map Qr.nm = askQ g (wantS s) ∧ Qs w W0.heap.size aa cc rs
  | 4, v, us, w => ∃ a33 c33 aa cc rs, HV w (N + 1) g ex left a33 (askS s la (wantS s)).length c33 kp la aa (List.length rs) cc ∧ HT w a33 (askS s la (wantS s)) ∧ rs.map Qr.nm = askQ g (wantS s) ∧ Qs w W0.heap.size aa cc rs ∧ ∃ W, Below W0.heap.size W0 W ∧ But1 (N + 1) W w
  | _, _, _, _ => True
def teD : Nat → List Nat
  | 2 => [1]
  | 3 => [0, 2]
  | 4 => [3]
  | _ => []
theorem te_st (N : Nat) (g : Int) (ex : Bool) (left : Int) (a : Option Addr) (n c : Nat) (kp la : Int) (b : Option Addr) (ln lc : Nat) (s : List Hd) (xs : List Int) (W0 : World) {i : Nat} {v : Value} {us : List Value} {w w' : World} (h8 : i ≠ 4) (hr : Below w.heap.size w w') (hv : teV N g ex left a n c kp la b ln lc s xs W0 i v us w) : teV N g ex left a n c kp la b ln lc s xs W0 i v us w' := by
  unfold teV at hv ⊢
  split at hv
  all_goals first
    | exact hv
    | (obtain ⟨x, y, e, h⟩ := hv; exact ⟨x, y, e, h.below hr⟩)
    | (obtain ⟨x, y, e, h⟩ := hv; exact ⟨x, y, e, own_grown h hr (Nat.le_refl _)⟩)
    | (obtain ⟨x, y, e, h, k⟩ := hv; exact ⟨x, y, e, h.below hr, own_grown k hr (Nat.le_refl _)⟩)
    | (obtain ⟨x, y, z, t, u, e, h, m, q⟩ := hv; exact ⟨x, y, z, t, u, e, h.below hr, m, q.below hr⟩)
    | exact absurd rfl h8
set_option maxRecDepth 100000 in
set_option maxHeartbeats 16000000 in
theorem mToEx (g : Int) (ex : Bool) (left : Int) (a : Option Addr) (n c : Nat) (kp la : Int) (s : List Hd) (b : Option Addr) (ln lc : Nat) (xs : List Int) (w : World)
    (hx : s.length = n) (hn : n ≤ 4000) (hH : HT w a s) (hi : Inc (ad s)) (hl : xs.length = ln) (hln : ln ≤ 4000) (hA : As w b xs) (hxi : Inc xs) (hT : (1 ≤ la ∧ la ≤ 1000000) ∧ (0 ≤ kp ∧ kp ≤ 1000000) ∧ (0 ≤ left ∧ left ≤ 1000000) ∧ (0 ≤ g ∧ g ≤ 4294967295)) :
    Calls Tryz.prog 78 #[.agg #[.int .u32 g, .bool ex, .int .i64 left, .slice a n c, .int .i64 kp, .int .i64 la, .slice none 0 0], .slice b ln lc] w fun e w' =>
      OutA w e w' g true kp (askS (exS s xs left) la (wantS (exS s xs left))) kp la (askQ g (wantS (exS s xs left))) := by
  have HX := Lib.hid hx
  have HH := Lib.hid hH
  have HI := Lib.hid hi
  have HL := Lib.hid hl
  have HA := Lib.hid hA
  have HXI := Lib.hid hxi
  have HT := Lib.hid hT
  clear hx hH hi hl hA hxi hT
  obtain ⟨w2, hw2⟩ : ∃ w2, w2 = (w.alloc (.cells #[.int .u32 g, .bool ex, .int .i64 left, .slice a n c, .int .i64 kp, .int .i64 la, .slice none 0 0] 95)).alloc (.cells #[.int .u32 0, .bool false, .int .i64 0, .slice none 0 0, .int .i64 0, .int .i64 0, .slice none 0 0] 95) := ⟨_, rfl⟩
  obtain ⟨hs2, v0, v1, hB2⟩ := mk2 w g ex left a n c kp la none 0 0 w2 hw2
  have HS2 := Lib.hid hs2
  have HB2 := Lib.hid hB2
  have V0 := Lib.hid v0
  have V1 := Lib.hid v1
  clear hs2 v0 v1 hB2
  go_enter Tryz.func78, Tryz.ntmps78
  go_wp2_with fail
  rw [← hw2]
  clear hw2
  obtain ⟨c0, c1, c2, c3, c4, c5, c6, f0, f1, f2, f3, f4, f5, f6⟩ := V0.out.cells
  refine (mExclude g ex left a n c kp la none 0 0 s b ln lc xs left w2 HX.out (by omega) (HH.out.1.below HB2.out) HI.out HL.out (by omega) (HA.out.below HB2.out) HXI.out (by have := HT.out; omega)).mono ?_
  rintro e w3 ⟨⟨az, cz, rfl, hH3⟩, hb3⟩
  have H3 := Lib.hid hH3
  have V03 := Lib.hid (V0.out.below hb3 V0.out.lt)
  have V13 := Lib.hid (V1.out.below hb3 V1.out.lt)
  have HB3 := Lib.hid (HB2.out.trans (hb3.mono HB2.out.size))
  clear hH3 hb3 V0 V1 HB2 c0 c1 c2 c3 c4 c5 c6 f0 f1 f2 f3 f4 f5 f6
  obtain ⟨c0, c1, c2, c3, c4, c5, c6, f0, f1, f2, f3, f4, f5, f6⟩ := V03.out.cells
  have HZ : Hid (exS s xs left = keepS (s.filter fun x => decide (x.1 ∈ xs)) (dif xs (ad s)) left) := Lib.hid rfl
  rw [← HZ.out] at H3
  rw [← HZ.out]
  have HSI := Lib.hid (exS_inc left HI.out HXI.out)
  have hzl : (exS s xs left).length ≤ 14000 := Nat.le_trans (exS_len s xs left) (by have := HX.out; have := HL.out; omega)
  obtain ⟨sz, hsz⟩ : ∃ sz, exS s xs left = sz := ⟨_, rfl⟩
  rw [hsz] at HSI hzl H3 ⊢
  have HSZ := Lib.hid hsz
  obtain ⟨nz, hnz⟩ : ∃ nz, sz.length = nz := ⟨_, rfl⟩
  rw [hnz] at hzl ⊢
  have HSX := Lib.hid hnz
  clear hsz hnz HZ
  go_wp2
  have BS := V03.out.store_but g true kp az nz cz kp la none 0 0
  have V0 := Lib.hid (V03.out.store g true kp az nz cz kp la none 0 0)
  have V1 := Lib.hid (V13.out.but BS (by omega))
  have HSS := Lib.hid (H3.out.other V03.out.noH BS)
  have HBZ := Lib.hid (HB3.out.trans (BS.below (Nat.le_refl _) HB3.out.size))
  clear c0 c1 c2 c3 c4 c5 c6 f0 f1 f2 f3 f4 f5 f6 BS V03 V13 H3 HB3
  generalize (((((((w3.setCell ⟨w.heap.size, 0, none⟩ (.int .u32 g)).setCell ⟨w.heap.size, 1, none⟩ (.bool true)).setCell ⟨w.heap.size, 2, none⟩ (.int .i64 kp)).setCell ⟨w.heap.size, 3, none⟩ (.slice az nz cz)).setCell ⟨w.heap.size, 4, none⟩ (.int .i64 kp)).setCell ⟨w.heap.size, 5, none⟩ (.int .i64 la)).setCell ⟨w.heap.size, 6, none⟩ (.slice none 0 0)) = wz at *
  refine wp_region_last (teV w.heap.size g true kp az nz cz kp la b ln lc sz xs wz) (fun W => Below wz.heap.size wz W) (fun _ A B => Below A.heap.size A B) teD [11, 12, 13, 14] (by kernel_rfl) (by kernel_rfl) (by kernel_rfl) (by kernel_rfl) (by kernel_rfl) (by decide) (Below.refl _ wz).drew
    (fun i j oi oj v us A B hoi hoj hij hni hw hSA hr hv => te_st _ _ _ _ _ _ _ _ _ _ _ _ _ _ _ (fun e => hni (by subst e; rfl)) hr hv)
    ⟨?_, ?_, ?_, ?_, ?_, trivial⟩ ?hend
  case refine_1 =>
    intro a' w9 hS h0 hd
    have e2 : a'.tmps[2]?.getD undef = .pointer (some ⟨w.heap.size, 0, none⟩) := vev (h0 2 (by kernel_rfl))
    obtain ⟨c0, c1, c2, c3, c4, c5, c6, f0, f1, f2, f3, f4, f5, f6⟩ := (V0.out.below hS V0.out.lt).cells
    refine Does2.value (.agg #[.int .u32 g, .bool true, .int .i64 kp, .slice az nz cz, .int .i64 kp, .int .i64 la, .slice none 0 0]) (w' := w9) ?_ ⟨rfl, fun _ => ⟨hS, Below.refl _ _⟩⟩
    clear hS h0 hd
    go_simp
  case refine_2 =>
    intro a' w9 hS h0 hd
    have e2 : a'.tmps[2]?.getD undef = .pointer (some ⟨w.heap.size, 0, none⟩) := vev (h0 2 (by kernel_rfl))
    obtain ⟨c0, c1, c2, c3, c4, c5, c6, f0, f1, f2, f3, f4, f5, f6⟩ := (V0.out.below hS V0.out.lt).cells
    refine Does2.value (.agg #[.int .u32 g, .bool true, .int .i64 kp, .slice az nz cz, .int .i64 kp, .int .i64 la, .slice none 0 0]) (w' := w9) ?_ ⟨rfl, fun _ => ⟨hS, Below.refl _ _⟩⟩
    clear hS h0 hd
    go_simp
  case refine_3 =>
    intro a' w9 hS h0 hd
    have e12 : a'.tmps[12]?.getD undef = .agg #[.int .u32 g, .bool true, .int .i64 kp, .slice az nz cz, .int .i64 kp, .int .i64 la, .slice none 0 0] := vev (hd 1 List.mem_cons_self)
    refine Does2.call 115 #[.agg #[.int .u32 g, .bool true, .int .i64 kp, .slice az nz cz, .int .i64 kp, .int .i64 la, .slice none 0 0]] (w' := w9) ?_ ((mWanted g true kp az nz cz kp la (.slice none 0 0) sz w9 HSX.out (by omega) (HSS.out.1.below hS)).mono ?_)
    · clear hS h0 hd
      go_simp
    · rintro e w8 ⟨⟨a8, c8, rfl, hA8, hf8, ho8⟩, hb⟩
      exact ⟨_, rfl, ⟨a8, c8, rfl, hA8, vown_le ho8 (Nat.zero_le _)⟩, fun _ => ⟨hS.trans (hb.mono hS.size), hb⟩⟩
  case refine_4 =>
    intro a' w9 hS h0 hd
    have e11 : a'.tmps[11]?.getD undef = .agg #[.int .u32 g, .bool true, .int .i64 kp, .slice az nz cz, .int .i64 kp, .int .i64 la, .slice none 0 0] := vev (hd 0 List.mem_cons_self)
    obtain ⟨a13, c13, e13, h13, k13⟩ := hd 2 (List.mem_cons_of_mem _ List.mem_cons_self)
    replace e13 := vev e13
    refine Does2.call 113 #[.agg #[.int .u32 g, .bool true, .int .i64 kp, .slice az nz cz, .int .i64 kp, .int .i64 la, .slice none 0 0], .slice a13 (wantS sz).length c13] (w' := w9) ?_ ((mAsk g true kp az nz cz kp la sz a13 _ c13 (wantS sz) w9 HSX.out (by omega) (HSS.out.below hS) HSI.out rfl (Nat.le_trans (wantS_len sz) (by rw [HSX.out]; omega)) (isA_iff.2 (ins_ad (ins_filter _ HSS.out.1.2))) k13 (wantS_inc HSI.out) (by have := HT.out; omega) HT.out.2.2.2).mono ?_)
    · clear hS h0 hd
      go_simp
    · rintro e w8 ⟨⟨a8, c8, aa8, cc8, rs8, rfl, hA8, hm8, hq8⟩, hb⟩
      exact ⟨_, rfl, ⟨a8, c8, aa8, cc8, rs8, rfl, hA8, hm8, hq8.le hS.size⟩, fun _ => ⟨hS.trans (hb.mono hS.size), hb⟩⟩
  case refine_5 =>
    intro a' w9 hS h0 hd
    have e4 : a'.tmps[4]?.getD undef = .pointer (some ⟨w.heap.size + 1, 0, none⟩) := vev (h0 4 (by kernel_rfl))
    obtain ⟨a33, c33, aa, cc, rs, e14, h33, m33, q33⟩ := hd 3 List.mem_cons_self
    replace e14 := vev e14
    have v1 := V1.out.below hS V1.out.lt
    obtain ⟨d0, d1, d2, d3, d4, d5, d6, e0, e1, e2, e3, e4, e5, e6⟩ := v1.cells
    have hst := v1.store g true kp a33 (askS sz la (wantS sz)).length c33 kp la aa (List.length rs) cc
    have hbt := v1.store_but g true kp a33 (askS sz la (wantS sz)).length c33 kp la aa (List.length rs) cc
    refine Does2.skip (w' := (((((((w9.setCell ⟨w.heap.size + 1, 0, none⟩ (.int .u32 g)).setCell ⟨w.heap.size + 1, 1, none⟩ (.bool true)).setCell ⟨w.heap.size + 1, 2, none⟩ (.int .i64 kp)).setCell ⟨w.heap.size + 1, 3, none⟩ (.slice a33 (askS sz la (wantS sz)).length c33)).setCell ⟨w.heap.size + 1, 4, none⟩ (.int .i64 kp)).setCell ⟨w.heap.size + 1, 5, none⟩ (.int .i64 la)).setCell ⟨w.heap.size + 1, 6, none⟩ (.slice aa (List.length rs) cc))) ?_ ⟨⟨a33, c33, aa, cc, rs, hst, h33.other v1.noH hbt, m33, q33.hv v1 hbt, w9, hS, hbt⟩, fun h => absurd rfl h⟩
    clear hS h0 hd h33 hst hbt v1 m33 q33
    go_simp
  case hend =>
    intro f w9 hv
    obtain ⟨a33, c33, aa, cc, rs, hst, h33, m33, q33, W, hbW, hbt⟩ := hv
    simp only [putAll, Act.put, List.setIfInBounds_toArray, List.set_cons_zero, List.set_cons_succ]
    have H33 := Lib.hid h33
    have M33 := Lib.hid m33
    have Q33 := Lib.hid q33
    have HLD := Lib.hid hst.load
    have HBF := Lib.hid (HBZ.out.trans ((hbW.mono HBZ.out.size).trans (hbt.below (by omega) (Nat.le_trans HBZ.out.size hbW.size))))
    clear hst h33 m33 q33 hbW hbt
    go_wp2_with fail
    refine ret_cell1 (p := 4) rfl rfl rfl HLD.out ?_
    rw [HSZ.out]
    exact ⟨⟨a33, c33, aa, cc, rs, rfl, H33.out, M33.out, Q33.out.le HBZ.out.size⟩, HBF.out⟩
end Go.Proofs.YtiabbkjmgaemaaaGreat
/- What Block and ToIn do. -/
namespace Go.Proofs.YtiabbkjmgaemaaaGreat
set_option linter.unusedVariables false
open Go.RowKit

def bkV (N : Nat) (g : Int) (ex : Bool) (left : Int) (a : Option Addr) (n c : Nat) (kp la : Int) (b : Option Addr) (ln lc : Nat) (s : List Hd) (xs : List Int) (W0 : World) : Nat → Value → List Value → World → Prop
  | 0, v, _, _ => v = .agg #[.int .u32 g, .bool ex, .int .i64 left, .slice a n c, .int .i64 kp, .int .i64 la, .slice none 0 0]
  | 1, v, _, _ => v = .slice b ln lc
  | 2, v, _, _ => v = .pointer (some ⟨N, 0, none⟩)
  | 3, v, _, _ => v = .pointer (some ⟨N, 3, none⟩)
  | 4, v, _, _ => v = .slice a n c
  | 5, v, _, w => ∃ (a13 : Option Addr) (c13 : Nat), v = .slice a13 (ad s).length c13 ∧ As w a13 (ad s)
  | 6, v, _, w => ∃ (a14 : Option Addr) (c14 : Nat), v = .slice a14 (dif xs (ad s)).length c14 ∧ As w a14 (dif xs (ad s))
  | 7, v, _, _ => v = .pointer (some ⟨N, 0, none⟩)
  | 8, v, _, _ => v = .pointer (some ⟨N, 2, none⟩)
  | 9, v, _, _ => v = .int .i64 left
  | 10, v, _, w => ∃ (a18 : Option Addr) (c18 : Nat), v = .agg #[.int .u32 g, .bool ex, .int .i64 left, .slice a18 (keepS s (dif xs (ad s)) left).length c18, .int .i64 kp, .int .i64 la, .slice none 0 0] ∧ HT w a18 (keepS s (dif xs (ad s)) left)
  | 11, v, us, w => ∃ a18 c18, HV w N g ex left a18 (keepS s (dif xs (ad s)) left).length c18 kp la none 0 0 ∧ HT w a18 (keepS s (dif xs (ad s)) left) ∧ ∃ W, Below W0.heap.size W0 W ∧ But1 N W w
  | _, _, _, _ => True
def bkD : Nat → List Nat
  | 3 => [2]
  | 4 => [3]
  | 5 => [4]
  | 6 => [1, 5]
  | 8 => [7]
  | 9 => [8]
  | 10 => [0, 6, 9]
  | 11 => [10]
  | _ => []
theorem bk_st (N : Nat) (g : Int) (ex : Bool) (left : Int) (a : Option Addr) (n c : Nat) (kp la : Int) (b : Option Addr) (ln lc : Nat) (s : List Hd) (xs : List Int) (W0 : World) {i : Nat} {v : Value} {us : List Value} {w w' : World} (h8 : i ≠ 11) (hr : Below w.heap.size w w') (hv : bkV N g ex left a n c kp la b ln lc s xs W0 i v us w) : bkV N g ex left a n c kp la b ln lc s xs W0 i v us w' := by
  unfold bkV at hv ⊢
  split at hv
  all_goals first
    | exact hv
    | (obtain ⟨x, y, e, h⟩ := hv; exact ⟨x, y, e, h.below hr⟩)
    | exact absurd rfl h8
def blV (N : Nat) (g : Int) (ex : Bool) (left : Int) (a : Option Addr) (n c : Nat) (kp la : Int) (b : Option Addr) (ln lc : Nat) (s : List Hd) (xs : List Int) (W0 : World) : Nat → Value → List Value → World → Prop
  | 0, v, _, _ => v = .agg #[.int .u32 g, .bool ex, .int .i64 left, .slice a n c, .int .i64 kp, .int .i64 la, .slice none 0 0]
  | 1, v, _, _ => v = .slice b ln lc
  | 2, v, _, _ => v = .agg #[.int .u32 g, .bool ex, .int .i64 left, .slice a n c, .int .i64 kp, .int .i64 la, .slice none 0 0]
  | 3, v, _, w => ∃ (a13 : Option Addr) (c13 : Nat), v = .slice a13 (wantS s).length c13 ∧ As w a13 (wantS s)
  | 4, v, _, w => ∃ (a15 : Option Addr) (c15 : Nat), v = .slice a15 (int xs (wantS s)).length c15 ∧ w.ownsRow 0 25 1 (.slice a15 (int xs (wantS s)).length c15) (int xs (wantS s)).length (va (int xs (wantS s)))
  | 5, v, _, w => ∃ (a33 : Option Addr) (c33 : Nat) (aa : Option Addr) (cc : Nat) (rs : List Qr), v = .agg #[.int .u32 g, .bool ex, .int .i64 left, .slice a33 (askS s la (int xs (wantS s))).length c33, .int .i64 kp, .int .i64 la, .slice aa (List.length rs) cc] ∧ HT w a33 (askS s la (int xs (wantS s))) ∧ rs.map Qr.nm = askQ g (int xs (wantS s)) ∧ Qs w W0.heap.size aa cc rs
  | 6, v, us, w => ∃ a33 c33 aa cc rs, HV w (N + 1) g ex left a33 (askS s la (int xs (wantS s))).length c33 kp la aa (List.length rs) cc ∧ HT w a33 (askS s la (int xs (wantS s))) ∧ rs.map Qr.nm = askQ g (int xs (wantS s)) ∧ Qs w W0.heap.size aa cc rs ∧ ∃ W, Below W0.heap.size W0 W ∧ But1 (N + 1) W w
  | _, _, _, _ => True
def blD : Nat → List Nat
  | 3 => [2]
  | 4 => [1, 3]
  | 5 => [0, 4]
  | 6 => [5]
  | _ => []
theorem bl_st (N : Nat) (g : Int) (ex : Bool) (left : Int) (a : Option Addr) (n c : Nat) (kp la : Int) (b : Option Addr) (ln lc : Nat) (s : List Hd) (xs : List Int) (W0 : World) {i : Nat} {v : Value} {us : List Value} {w w' : World} (h8 : i ≠ 6) (hr : Below w.heap.size w w') (hv : blV N g ex left a n c kp la b ln lc s xs W0 i v us w) : blV N g ex left a n c kp la b ln lc s xs W0 i v us w' := by
  unfold blV at hv ⊢
  split at hv
  all_goals first
    | exact hv
    | (obtain ⟨x, y, e, h⟩ := hv; exact ⟨x, y, e, h.below hr⟩)
    | (obtain ⟨x, y, e, h⟩ := hv; exact ⟨x, y, e, own_grown h hr (Nat.le_refl _)⟩)
    | (obtain ⟨x, y, e, h, k⟩ := hv; exact ⟨x, y, e, h.below hr, own_grown k hr (Nat.le_refl _)⟩)
    | (obtain ⟨x, y, z, t, u, e, h, m, q⟩ := hv; exact ⟨x, y, z, t, u, e, h.below hr, m, q.below hr⟩)
    | exact absurd rfl h8
set_option maxRecDepth 100000 in
set_option maxHeartbeats 16000000 in
theorem mBlock (g : Int) (ex : Bool) (left : Int) (a : Option Addr) (n c : Nat) (kp la : Int) (s : List Hd) (b : Option Addr) (ln lc : Nat) (xs : List Int) (w : World)
    (hx : s.length = n) (hn : n ≤ 4000) (hH : HT w a s) (hi : Inc (ad s)) (hl : xs.length = ln) (hln : ln ≤ 4000) (hA : As w b xs) (hxi : Inc xs) (hT : (1 ≤ la ∧ la ≤ 1000000) ∧ (0 ≤ kp ∧ kp ≤ 1000000) ∧ (0 ≤ left ∧ left ≤ 1000000) ∧ (0 ≤ g ∧ g ≤ 4294967295)) :
    Calls Tryz.prog 79 #[.agg #[.int .u32 g, .bool ex, .int .i64 left, .slice a n c, .int .i64 kp, .int .i64 la, .slice none 0 0], .slice b ln lc] w fun e w' =>
      OutA w e w' g ex left (askS (if ex then keepS s (dif xs (ad s)) left else s) la (int xs (wantS (if ex then keepS s (dif xs (ad s)) left else s)))) kp la (askQ g (int xs (wantS (if ex then keepS s (dif xs (ad s)) left else s)))) := by
  have HX := Lib.hid hx
  have HH := Lib.hid hH
  have HI := Lib.hid hi
  have HL := Lib.hid hl
  have HA := Lib.hid hA
  have HXI := Lib.hid hxi
  have HT := Lib.hid hT
  clear hx hH hi hl hA hxi hT
  obtain ⟨w2, hw2⟩ : ∃ w2, w2 = (w.alloc (.cells #[.int .u32 g, .bool ex, .int .i64 left, .slice a n c, .int .i64 kp, .int .i64 la, .slice none 0 0] 95)).alloc (.cells #[.int .u32 0, .bool false, .int .i64 0, .slice none 0 0, .int .i64 0, .int .i64 0, .slice none 0 0] 95) := ⟨_, rfl⟩
  obtain ⟨hs2, v0, v1, hB2⟩ := mk2 w g ex left a n c kp la none 0 0 w2 hw2
  have HS2 := Lib.hid hs2
  have HB2 := Lib.hid hB2
  have V0 := Lib.hid v0
  have V1 := Lib.hid v1
  clear hs2 v0 v1 hB2
  have HH2 := Lib.hid (HH.out.below HB2.out)
  have HA2 := Lib.hid (HA.out.below HB2.out)
  go_enter Tryz.func79, Tryz.ntmps79
  cases ex
  · simp only [Bool.false_eq_true, if_false]
    obtain ⟨c0, c1, c2, c3, c4, c5, c6, f0, f1, f2, f3, f4, f5, f6⟩ := V0.out.cells
    go_wp2
    rw [← hw2]
    clear hw2 c0 c1 c2 c3 c4 c5 c6 f0 f1 f2 f3 f4 f5 f6
    have HSS := HH2
    have HAW := HA2
    have HBZ := HB2
    have HSX := HX
    have HSI := HI
    clear HH2 HA2 HB2
    generalize w2 = wz at *
    refine wp_region_last (blV w.heap.size g false left a n c kp la b ln lc s xs wz) (fun W => Below wz.heap.size wz W) (fun _ A B => Below A.heap.size A B) blD [19, 20, 21, 22, 23, 24] (by kernel_rfl) (by kernel_rfl) (by kernel_rfl) (by kernel_rfl) (by kernel_rfl) (by decide) (Below.refl _ wz).drew
      (fun i j oi oj v us A B hoi hoj hij hni hw hSA hr hv => bl_st _ _ _ _ _ _ _ _ _ _ _ _ _ _ _ (fun e => hni (by subst e; rfl)) hr hv)
      ⟨?_, ?_, ?_, ?_, ?_, ?_, ?_, trivial⟩ ?hend
    case refine_1 =>
      intro a' w9 hS h0 hd
      have e2 : a'.tmps[2]?.getD undef = .pointer (some ⟨w.heap.size, 0, none⟩) := vev (h0 2 (by kernel_rfl))
      obtain ⟨c0, c1, c2, c3, c4, c5, c6, f0, f1, f2, f3, f4, f5, f6⟩ := (V0.out.below hS V0.out.lt).cells
      refine Does2.value (.agg #[.int .u32 g, .bool false, .int .i64 left, .slice a n c, .int .i64 kp, .int .i64 la, .slice none 0 0]) (w' := w9) ?_ ⟨rfl, fun _ => ⟨hS, Below.refl _ _⟩⟩
      clear hS h0 hd
      go_simp
    case refine_2 =>
      intro a' w9 hS h0 hd
      have e1 : a'.tmps[1]?.getD undef = .slice b ln lc := vev (h0 1 (by kernel_rfl))
      refine Does2.value (.slice b ln lc) (w' := w9) ?_ ⟨rfl, fun _ => ⟨hS, Below.refl _ _⟩⟩
      clear hS h0 hd
      go_simp
    case refine_3 =>
      intro a' w9 hS h0 hd
      have e2 : a'.tmps[2]?.getD undef = .pointer (some ⟨w.heap.size, 0, none⟩) := vev (h0 2 (by kernel_rfl))
      obtain ⟨c0, c1, c2, c3, c4, c5, c6, f0, f1, f2, f3, f4, f5, f6⟩ := (V0.out.below hS V0.out.lt).cells
      refine Does2.value (.agg #[.int .u32 g, .bool false, .int .i64 left, .slice a n c, .int .i64 kp, .int .i64 la, .slice none 0 0]) (w' := w9) ?_ ⟨rfl, fun _ => ⟨hS, Below.refl _ _⟩⟩
      clear hS h0 hd
      go_simp
    case refine_4 =>
      intro a' w9 hS h0 hd
      have e21 : a'.tmps[21]?.getD undef = .agg #[.int .u32 g, .bool false, .int .i64 left, .slice a n c, .int .i64 kp, .int .i64 la, .slice none 0 0] := vev (hd 2 List.mem_cons_self)
      refine Does2.call 115 #[.agg #[.int .u32 g, .bool false, .int .i64 left, .slice a n c, .int .i64 kp, .int .i64 la, .slice none 0 0]] (w' := w9) ?_ ((mWanted g false left a n c kp la (.slice none 0 0) s w9 HSX.out (by omega) (HSS.out.1.below hS)).mono ?_)
      · clear hS h0 hd
        go_simp
      · rintro e w8 ⟨⟨a8, c8, rfl, hA8, hf8, ho8⟩, hb⟩
        exact ⟨_, rfl, ⟨a8, c8, rfl, hA8⟩, fun _ => ⟨hS.trans (hb.mono hS.size), hb⟩⟩
    case refine_5 =>
      intro a' w9 hS h0 hd
      have e20 : a'.tmps[20]?.getD undef = .slice b ln lc := vev (hd 1 List.mem_cons_self)
      obtain ⟨a13, c13, e22, h13⟩ := hd 3 (List.mem_cons_of_mem _ List.mem_cons_self)
      replace e22 := vev e22
      refine Does2.call 117 #[.slice b ln lc, .slice a13 (wantS s).length c13] (w' := w9) ?_ ((vInter b a13 ln _ lc c13 xs (wantS s) w9 HL.out rfl (by omega) (Nat.le_trans (wantS_len s) (by rw [HSX.out]; omega)) (HAW.out.below hS) h13).mono ?_)
      · clear hS h0 hd
        go_simp
      · rintro e w8 ⟨⟨a8, c8, rfl, hA8, hf8, ho8⟩, hb⟩
        exact ⟨_, rfl, ⟨a8, c8, rfl, vown_le ho8 (Nat.zero_le _)⟩, fun _ => ⟨hS.trans (hb.mono hS.size), hb⟩⟩
    case refine_6 =>
      intro a' w9 hS h0 hd
      have e19 : a'.tmps[19]?.getD undef = .agg #[.int .u32 g, .bool false, .int .i64 left, .slice a n c, .int .i64 kp, .int .i64 la, .slice none 0 0] := vev (hd 0 List.mem_cons_self)
      obtain ⟨a15, c15, e23, k15⟩ := hd 4 (List.mem_cons_of_mem _ List.mem_cons_self)
      replace e23 := vev e23
      refine Does2.call 113 #[.agg #[.int .u32 g, .bool false, .int .i64 left, .slice a n c, .int .i64 kp, .int .i64 la, .slice none 0 0], .slice a15 (int xs (wantS s)).length c15] (w' := w9) ?_ ((mAsk g false left a n c kp la s a15 _ c15 (int xs (wantS s)) w9 HSX.out (by omega) (HSS.out.below hS) HSI.out rfl (Nat.le_trans (those_len _ _ _) (by have := wantS_len s; have := HSX.out; have := HL.out; omega)) (those_isA HA.out.2 (isA_iff.2 (ins_ad (ins_filter _ HSS.out.1.2)))) k15 (int_inc HXI.out (wantS_inc HSI.out)) (by have := HT.out; omega) HT.out.2.2.2).mono ?_)
      · clear hS h0 hd
        go_simp
      · rintro e w8 ⟨⟨a8, c8, aa8, cc8, rs8, rfl, hA8, hm8, hq8⟩, hb⟩
        exact ⟨_, rfl, ⟨a8, c8, aa8, cc8, rs8, rfl, hA8, hm8, hq8.le hS.size⟩, fun _ => ⟨hS.trans (hb.mono hS.size), hb⟩⟩
    case refine_7 =>
      intro a' w9 hS h0 hd
      have e4 : a'.tmps[4]?.getD undef = .pointer (some ⟨w.heap.size + 1, 0, none⟩) := vev (h0 4 (by kernel_rfl))
      obtain ⟨a33, c33, aa, cc, rs, e24, h33, m33, q33⟩ := hd 5 List.mem_cons_self
      replace e24 := vev e24
      have v1 := V1.out.below hS V1.out.lt
      obtain ⟨d0, d1, d2, d3, d4, d5, d6, e0, e1, e2, e3, e4, e5, e6⟩ := v1.cells
      have hst := v1.store g false left a33 (askS s la (int xs (wantS s))).length c33 kp la aa (List.length rs) cc
      have hbt := v1.store_but g false left a33 (askS s la (int xs (wantS s))).length c33 kp la aa (List.length rs) cc
      refine Does2.skip (w' := (((((((w9.setCell ⟨w.heap.size + 1, 0, none⟩ (.int .u32 g)).setCell ⟨w.heap.size + 1, 1, none⟩ (.bool false)).setCell ⟨w.heap.size + 1, 2, none⟩ (.int .i64 left)).setCell ⟨w.heap.size + 1, 3, none⟩ (.slice a33 (askS s la (int xs (wantS s))).length c33)).setCell ⟨w.heap.size + 1, 4, none⟩ (.int .i64 kp)).setCell ⟨w.heap.size + 1, 5, none⟩ (.int .i64 la)).setCell ⟨w.heap.size + 1, 6, none⟩ (.slice aa (List.length rs) cc))) ?_ ⟨⟨a33, c33, aa, cc, rs, hst, h33.other v1.noH hbt, m33, q33.hv v1 hbt, w9, hS, hbt⟩, fun h => absurd rfl h⟩
      clear hS h0 hd h33 hst hbt v1 m33 q33
      go_simp
    case hend =>
      intro f w9 hv
      obtain ⟨a33, c33, aa, cc, rs, hst, h33, m33, q33, W, hbW, hbt⟩ := hv
      simp only [putAll, Act.put, List.setIfInBounds_toArray, List.set_cons_zero, List.set_cons_succ]
      have H33 := Lib.hid h33
      have M33 := Lib.hid m33
      have Q33 := Lib.hid q33
      have HLD := Lib.hid hst.load
      have HBF := Lib.hid (HBZ.out.trans ((hbW.mono HBZ.out.size).trans (hbt.below (by omega) (Nat.le_trans HBZ.out.size hbW.size))))
      clear hst h33 m33 q33 hbW hbt
      go_wp2_with fail
      refine ret_cell1 (p := 4) rfl rfl rfl HLD.out ?_
      exact ⟨⟨a33, c33, aa, cc, rs, rfl, H33.out, M33.out, Q33.out.le HBZ.out.size⟩, HBF.out⟩
  · simp only [if_true]
    obtain ⟨c0, c1, c2, c3, c4, c5, c6, f0, f1, f2, f3, f4, f5, f6⟩ := V0.out.cells
    go_wp2
    rw [← hw2]
    clear hw2 c0 c1 c2 c3 c4 c5 c6 f0 f1 f2 f3 f4 f5 f6
    refine wp_region_last (bkV w.heap.size g true left a n c kp la b ln lc s xs w2) (fun W => Below w2.heap.size w2 W) (fun _ A B => Below A.heap.size A B) bkD [8, 9, 10, 11, 12, 13, 14, 15, 16, 17, 18] (by kernel_rfl) (by kernel_rfl) (by kernel_rfl) (by kernel_rfl) (by kernel_rfl) (by decide) (Below.refl _ w2).drew
      (fun i j oi oj v us A B hoi hoj hij hni hw hSA hr hv => bk_st _ _ _ _ _ _ _ _ _ _ _ _ _ _ _ (fun e => hni (by subst e; rfl)) hr hv)
      ⟨?_, ?_, ?_, ?_, ?_, ?_, ?_, ?_, ?_, ?_, ?_, ?_, trivial⟩ ?hend
    case refine_1 =>
      intro a' w9 hS h0 hd
      have e2 : a'.tmps[2]?.getD undef = .pointer (some ⟨w.heap.size, 0, none⟩) := vev (h0 2 (by kernel_rfl))
      obtain ⟨c0, c1, c2, c3, c4, c5, c6, f0, f1, f2, f3, f4, f5, f6⟩ := (V0.out.below hS V0.out.lt).cells
      refine Does2.value (.agg #[.int .u32 g, .bool true, .int .i64 left, .slice a n c, .int .i64 kp, .int .i64 la, .slice none 0 0]) (w' := w9) ?_ ⟨rfl, fun _ => ⟨hS, Below.refl _ _⟩⟩
      clear hS h0 hd
      go_simp
    case refine_2 =>
      intro a' w9 hS h0 hd
      have e1 : a'.tmps[1]?.getD undef = .slice b ln lc := vev (h0 1 (by kernel_rfl))
      refine Does2.value (.slice b ln lc) (w' := w9) ?_ ⟨rfl, fun _ => ⟨hS, Below.refl _ _⟩⟩
      clear hS h0 hd
      go_simp
    case refine_3 =>
      intro a' w9 hS h0 hd
      have e2 : a'.tmps[2]?.getD undef = .pointer (some ⟨w.heap.size, 0, none⟩) := vev (h0 2 (by kernel_rfl))
      refine Does2.value (.pointer (some ⟨w.heap.size, 0, none⟩)) (w' := w9) ?_ ⟨rfl, fun _ => ⟨hS, Below.refl _ _⟩⟩
      clear hS h0 hd
      go_simp
    case refine_4 =>
      intro a' w9 hS h0 hd
      have e10 : a'.tmps[10]?.getD undef = .pointer (some ⟨w.heap.size, 0, none⟩) := vev (hd 2 List.mem_cons_self)
      refine Does2.value (.pointer (some ⟨w.heap.size, 3, none⟩)) (w' := w9) ?_ ⟨rfl, fun _ => ⟨hS, Below.refl _ _⟩⟩
      clear hS h0 hd
      go_simp
    case refine_5 =>
      intro a' w9 hS h0 hd
      have e11 : a'.tmps[11]?.getD undef = .pointer (some ⟨w.heap.size, 3, none⟩) := vev (hd 3 List.mem_cons_self)
      obtain ⟨c0, c1, c2, c3, c4, c5, c6, f0, f1, f2, f3, f4, f5, f6⟩ := (V0.out.below hS V0.out.lt).cells
      refine Does2.value (.slice a n c) (w' := w9) ?_ ⟨rfl, fun _ => ⟨hS, Below.refl _ _⟩⟩
      clear hS h0 hd
      go_simp
    case refine_6 =>
      intro a' w9 hS h0 hd
      have e12 : a'.tmps[12]?.getD undef = .slice a n c := vev (hd 4 List.mem_cons_self)
      refine Does2.call 116 #[.slice a n c] (w' := w9) ?_ ((mAddrs a n c s w9 HX.out (by omega) (HH2.out.1.below hS)).mono ?_)
      · clear hS h0 hd
        go_simp
      · rintro e w8 ⟨⟨a8, c8, rfl, hA8, hf8, ho8⟩, hb⟩
        exact ⟨_, rfl, ⟨a8, c8, rfl, hA8⟩, fun _ => ⟨hS.trans (hb.mono hS.size), hb⟩⟩
    case refine_7 =>
      intro a' w9 hS h0 hd
      have e9 : a'.tmps[9]?.getD undef = .slice b ln lc := vev (hd 1 List.mem_cons_self)
      obtain ⟨a13, c13, e13, h13⟩ := hd 5 (List.mem_cons_of_mem _ List.mem_cons_self)
      replace e13 := vev e13
      refine Does2.call 114 #[.slice b ln lc, .slice a13 (ad s).length c13] (w' := w9) ?_ ((vMinus b a13 ln _ lc c13 xs (ad s) w9 HL.out rfl (by omega) (by rw [ad_len, HX.out]; omega) (HA2.out.below hS) h13).mono ?_)
      · clear hS h0 hd
        go_simp
      · rintro e w8 ⟨⟨a8, c8, rfl, hA8, hf8, ho8⟩, hb⟩
        exact ⟨_, rfl, ⟨a8, c8, rfl, hA8⟩, fun _ => ⟨hS.trans (hb.mono hS.size), hb⟩⟩
    case refine_8 =>
      intro a' w9 hS h0 hd
      have e2 : a'.tmps[2]?.getD undef = .pointer (some ⟨w.heap.size, 0, none⟩) := vev (h0 2 (by kernel_rfl))
      refine Does2.value (.pointer (some ⟨w.heap.size, 0, none⟩)) (w' := w9) ?_ ⟨rfl, fun _ => ⟨hS, Below.refl _ _⟩⟩
      clear hS h0 hd
      go_simp
    case refine_9 =>
      intro a' w9 hS h0 hd
      have e15 : a'.tmps[15]?.getD undef = .pointer (some ⟨w.heap.size, 0, none⟩) := vev (hd 7 List.mem_cons_self)
      refine Does2.value (.pointer (some ⟨w.heap.size, 2, none⟩)) (w' := w9) ?_ ⟨rfl, fun _ => ⟨hS, Below.refl _ _⟩⟩
      clear hS h0 hd
      go_simp
    case refine_10 =>
      intro a' w9 hS h0 hd
      have e16 : a'.tmps[16]?.getD undef = .pointer (some ⟨w.heap.size, 2, none⟩) := vev (hd 8 List.mem_cons_self)
      obtain ⟨c0, c1, c2, c3, c4, c5, c6, f0, f1, f2, f3, f4, f5, f6⟩ := (V0.out.below hS V0.out.lt).cells
      refine Does2.value (.int .i64 left) (w' := w9) ?_ ⟨rfl, fun _ => ⟨hS, Below.refl _ _⟩⟩
      clear hS h0 hd
      go_simp
    case refine_11 =>
      intro a' w9 hS h0 hd
      have e8 : a'.tmps[8]?.getD undef = .agg #[.int .u32 g, .bool true, .int .i64 left, .slice a n c, .int .i64 kp, .int .i64 la, .slice none 0 0] := vev (hd 0 List.mem_cons_self)
      obtain ⟨a14, c14, e14, h14⟩ := hd 6 (List.mem_cons_of_mem _ List.mem_cons_self)
      replace e14 := vev e14
      have e17 : a'.tmps[17]?.getD undef = .int .i64 left := vev (hd 9 (List.mem_cons_of_mem _ (List.mem_cons_of_mem _ List.mem_cons_self)))
      refine Does2.call 111 #[.agg #[.int .u32 g, .bool true, .int .i64 left, .slice a n c, .int .i64 kp, .int .i64 la, .slice none 0 0], .slice a14 (dif xs (ad s)).length c14, .int .i64 left] (w' := w9) ?_ ((mKeep g true left a n c kp la none 0 0 s a14 _ c14 (dif xs (ad s)) left w9 HX.out (by omega) (HH2.out.1.below hS) HI.out rfl (Nat.le_trans (those_len _ _ _) (by rw [ad_len, HX.out, HL.out]; omega)) h14 (dif_inc HXI.out HI.out) (by have := HT.out; omega)).mono ?_)
      · clear hS h0 hd
        go_simp
      · rintro e w8 ⟨⟨a8, c8, rfl, hA8⟩, hb⟩
        exact ⟨_, rfl, ⟨a8, c8, rfl, hA8⟩, fun _ => ⟨hS.trans (hb.mono hS.size), hb⟩⟩
    case refine_12 =>
      intro a' w9 hS h0 hd
      have e2 : a'.tmps[2]?.getD undef = .pointer (some ⟨w.heap.size, 0, none⟩) := vev (h0 2 (by kernel_rfl))
      obtain ⟨a18, c18, e18, h18⟩ := hd 10 List.mem_cons_self
      replace e18 := vev e18
      have v1 := V0.out.below hS V0.out.lt
      obtain ⟨d0, d1, d2, d3, d4, d5, d6, e0, e1, e2, e3, e4, e5, e6⟩ := v1.cells
      have hst := v1.store g true left a18 (keepS s (dif xs (ad s)) left).length c18 kp la none 0 0
      have hbt := v1.store_but g true left a18 (keepS s (dif xs (ad s)) left).length c18 kp la none 0 0
      refine Does2.skip (w' := (((((((w9.setCell ⟨w.heap.size, 0, none⟩ (.int .u32 g)).setCell ⟨w.heap.size, 1, none⟩ (.bool true)).setCell ⟨w.heap.size, 2, none⟩ (.int .i64 left)).setCell ⟨w.heap.size, 3, none⟩ (.slice a18 (keepS s (dif xs (ad s)) left).length c18)).setCell ⟨w.heap.size, 4, none⟩ (.int .i64 kp)).setCell ⟨w.heap.size, 5, none⟩ (.int .i64 la)).setCell ⟨w.heap.size, 6, none⟩ (.slice none 0 0))) ?_ ⟨⟨a18, c18, hst, h18.other v1.noH hbt, w9, hS, hbt⟩, fun h => absurd rfl h⟩
      clear hS h0 hd h18 hst hbt v1
      go_simp
    case hend =>
      intro f w9 hv
      obtain ⟨az, cz, hst, h18, W, hbW, hbt⟩ := hv
      simp only [putAll, Act.put, List.setIfInBounds_toArray, List.set_cons_zero, List.set_cons_succ]
      have V0z := Lib.hid hst
      have V1z := Lib.hid ((V1.out.below hbW V1.out.lt).but hbt (by omega))
      have HSS := Lib.hid h18
      have HBZ := Lib.hid (HB2.out.trans ((hbW.mono HB2.out.size).trans (hbt.below (Nat.le_refl _) (Nat.le_trans HB2.out.size hbW.size))))
      have HAW := Lib.hid (HA.out.below HBZ.out)
      have HSI := Lib.hid (keepS_inc (s := s) (l := dif xs (ad s)) left HI.out (dif_inc HXI.out HI.out))
      have hzl : (keepS s (dif xs (ad s)) left).length ≤ 14000 := Nat.le_trans (keepS_len _ _ _) (by have := those_len (fun p q => p && !q) xs (ad s); rw [ad_len] at this; have := HX.out; have := HL.out; unfold dif; omega)
      clear hst h18 hbW hbt V0 V1 HB2 HH2 HA2
      have V0 := V0z
      have V1 := V1z
      clear V0z V1z
      generalize w9 = wz at *
      obtain ⟨sz, hsz⟩ : ∃ sz, keepS s (dif xs (ad s)) left = sz := ⟨_, rfl⟩
      rw [hsz] at HSI hzl HSS V0
      have HSZ := Lib.hid hsz
      obtain ⟨nz, hnz⟩ : ∃ nz, sz.length = nz := ⟨_, rfl⟩
      rw [hnz] at hzl V0
      have HSX := Lib.hid hnz
      clear hsz hnz
      go_wp2
      refine wp_region_last (blV w.heap.size g true left az nz cz kp la b ln lc sz xs wz) (fun W => Below wz.heap.size wz W) (fun _ A B => Below A.heap.size A B) blD [19, 20, 21, 22, 23, 24] (by kernel_rfl) (by kernel_rfl) (by kernel_rfl) (by kernel_rfl) (by kernel_rfl) (by decide) (Below.refl _ wz).drew
        (fun i j oi oj v us A B hoi hoj hij hni hw hSA hr hv => bl_st _ _ _ _ _ _ _ _ _ _ _ _ _ _ _ (fun e => hni (by subst e; rfl)) hr hv)
        ⟨?_, ?_, ?_, ?_, ?_, ?_, ?_, trivial⟩ ?hend
      case refine_1 =>
        intro a' w9 hS h0 hd
        have e2 : a'.tmps[2]?.getD undef = .pointer (some ⟨w.heap.size, 0, none⟩) := vev (h0 2 (by kernel_rfl))
        obtain ⟨c0, c1, c2, c3, c4, c5, c6, f0, f1, f2, f3, f4, f5, f6⟩ := (V0.out.below hS V0.out.lt).cells
        refine Does2.value (.agg #[.int .u32 g, .bool true, .int .i64 left, .slice az nz cz, .int .i64 kp, .int .i64 la, .slice none 0 0]) (w' := w9) ?_ ⟨rfl, fun _ => ⟨hS, Below.refl _ _⟩⟩
        clear hS h0 hd
        go_simp
      case refine_2 =>
        intro a' w9 hS h0 hd
        have e1 : a'.tmps[1]?.getD undef = .slice b ln lc := vev (h0 1 (by kernel_rfl))
        refine Does2.value (.slice b ln lc) (w' := w9) ?_ ⟨rfl, fun _ => ⟨hS, Below.refl _ _⟩⟩
        clear hS h0 hd
        go_simp
      case refine_3 =>
        intro a' w9 hS h0 hd
        have e2 : a'.tmps[2]?.getD undef = .pointer (some ⟨w.heap.size, 0, none⟩) := vev (h0 2 (by kernel_rfl))
        obtain ⟨c0, c1, c2, c3, c4, c5, c6, f0, f1, f2, f3, f4, f5, f6⟩ := (V0.out.below hS V0.out.lt).cells
        refine Does2.value (.agg #[.int .u32 g, .bool true, .int .i64 left, .slice az nz cz, .int .i64 kp, .int .i64 la, .slice none 0 0]) (w' := w9) ?_ ⟨rfl, fun _ => ⟨hS, Below.refl _ _⟩⟩
        clear hS h0 hd
        go_simp
      case refine_4 =>
        intro a' w9 hS h0 hd
        have e21 : a'.tmps[21]?.getD undef = .agg #[.int .u32 g, .bool true, .int .i64 left, .slice az nz cz, .int .i64 kp, .int .i64 la, .slice none 0 0] := vev (hd 2 List.mem_cons_self)
        refine Does2.call 115 #[.agg #[.int .u32 g, .bool true, .int .i64 left, .slice az nz cz, .int .i64 kp, .int .i64 la, .slice none 0 0]] (w' := w9) ?_ ((mWanted g true left az nz cz kp la (.slice none 0 0) sz w9 HSX.out (by omega) (HSS.out.1.below hS)).mono ?_)
        · clear hS h0 hd
          go_simp
        · rintro e w8 ⟨⟨a8, c8, rfl, hA8, hf8, ho8⟩, hb⟩
          exact ⟨_, rfl, ⟨a8, c8, rfl, hA8⟩, fun _ => ⟨hS.trans (hb.mono hS.size), hb⟩⟩
      case refine_5 =>
        intro a' w9 hS h0 hd
        have e20 : a'.tmps[20]?.getD undef = .slice b ln lc := vev (hd 1 List.mem_cons_self)
        obtain ⟨a13, c13, e22, h13⟩ := hd 3 (List.mem_cons_of_mem _ List.mem_cons_self)
        replace e22 := vev e22
        refine Does2.call 117 #[.slice b ln lc, .slice a13 (wantS sz).length c13] (w' := w9) ?_ ((vInter b a13 ln _ lc c13 xs (wantS sz) w9 HL.out rfl (by omega) (Nat.le_trans (wantS_len sz) (by rw [HSX.out]; omega)) (HAW.out.below hS) h13).mono ?_)
        · clear hS h0 hd
          go_simp
        · rintro e w8 ⟨⟨a8, c8, rfl, hA8, hf8, ho8⟩, hb⟩
          exact ⟨_, rfl, ⟨a8, c8, rfl, vown_le ho8 (Nat.zero_le _)⟩, fun _ => ⟨hS.trans (hb.mono hS.size), hb⟩⟩
      case refine_6 =>
        intro a' w9 hS h0 hd
        have e19 : a'.tmps[19]?.getD undef = .agg #[.int .u32 g, .bool true, .int .i64 left, .slice az nz cz, .int .i64 kp, .int .i64 la, .slice none 0 0] := vev (hd 0 List.mem_cons_self)
        obtain ⟨a15, c15, e23, k15⟩ := hd 4 (List.mem_cons_of_mem _ List.mem_cons_self)
        replace e23 := vev e23
        refine Does2.call 113 #[.agg #[.int .u32 g, .bool true, .int .i64 left, .slice az nz cz, .int .i64 kp, .int .i64 la, .slice none 0 0], .slice a15 (int xs (wantS sz)).length c15] (w' := w9) ?_ ((mAsk g true left az nz cz kp la sz a15 _ c15 (int xs (wantS sz)) w9 HSX.out (by omega) (HSS.out.below hS) HSI.out rfl (Nat.le_trans (those_len _ _ _) (by have := wantS_len sz; have := HSX.out; have := HL.out; omega)) (those_isA HA.out.2 (isA_iff.2 (ins_ad (ins_filter _ HSS.out.1.2)))) k15 (int_inc HXI.out (wantS_inc HSI.out)) (by have := HT.out; omega) HT.out.2.2.2).mono ?_)
        · clear hS h0 hd
          go_simp
        · rintro e w8 ⟨⟨a8, c8, aa8, cc8, rs8, rfl, hA8, hm8, hq8⟩, hb⟩
          exact ⟨_, rfl, ⟨a8, c8, aa8, cc8, rs8, rfl, hA8, hm8, hq8.le hS.size⟩, fun _ => ⟨hS.trans (hb.mono hS.size), hb⟩⟩
      case refine_7 =>
        intro a' w9 hS h0 hd
        have e4 : a'.tmps[4]?.getD undef = .pointer (some ⟨w.heap.size + 1, 0, none⟩) := vev (h0 4 (by kernel_rfl))
        obtain ⟨a33, c33, aa, cc, rs, e24, h33, m33, q33⟩ := hd 5 List.mem_cons_self
        replace e24 := vev e24
        have v1 := V1.out.below hS V1.out.lt
        obtain ⟨d0, d1, d2, d3, d4, d5, d6, e0, e1, e2, e3, e4, e5, e6⟩ := v1.cells
        have hst := v1.store g true left a33 (askS sz la (int xs (wantS sz))).length c33 kp la aa (List.length rs) cc
        have hbt := v1.store_but g true left a33 (askS sz la (int xs (wantS sz))).length c33 kp la aa (List.length rs) cc
        refine Does2.skip (w' := (((((((w9.setCell ⟨w.heap.size + 1, 0, none⟩ (.int .u32 g)).setCell ⟨w.heap.size + 1, 1, none⟩ (.bool true)).setCell ⟨w.heap.size + 1, 2, none⟩ (.int .i64 left)).setCell ⟨w.heap.size + 1, 3, none⟩ (.slice a33 (askS sz la (int xs (wantS sz))).length c33)).setCell ⟨w.heap.size + 1, 4, none⟩ (.int .i64 kp)).setCell ⟨w.heap.size + 1, 5, none⟩ (.int .i64 la)).setCell ⟨w.heap.size + 1, 6, none⟩ (.slice aa (List.length rs) cc))) ?_ ⟨⟨a33, c33, aa, cc, rs, hst, h33.other v1.noH hbt, m33, q33.hv v1 hbt, w9, hS, hbt⟩, fun h => absurd rfl h⟩
        clear hS h0 hd h33 hst hbt v1 m33 q33
        go_simp
      case hend =>
        intro f w9 hv
        obtain ⟨a33, c33, aa, cc, rs, hst, h33, m33, q33, W, hbW, hbt⟩ := hv
        simp only [putAll, Act.put, List.setIfInBounds_toArray, List.set_cons_zero, List.set_cons_succ]
        have H33 := Lib.hid h33
        have M33 := Lib.hid m33
        have Q33 := Lib.hid q33
        have HLD := Lib.hid hst.load
        have HBF := Lib.hid (HBZ.out.trans ((hbW.mono HBZ.out.size).trans (hbt.below (by omega) (Nat.le_trans HBZ.out.size hbW.size))))
        clear hst h33 m33 q33 hbW hbt
        go_wp2_with fail
        refine ret_cell1 (p := 4) rfl rfl rfl HLD.out ?_
        rw [HSZ.out]
        exact ⟨⟨a33, c33, aa, cc, rs, rfl, H33.out, M33.out, Q33.out.le HBZ.out.size⟩, HBF.out⟩
end Go.Proofs.YtiabbkjmgaemaaaGreat
