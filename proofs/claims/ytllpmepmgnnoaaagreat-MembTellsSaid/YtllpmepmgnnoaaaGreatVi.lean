/- What each type of records does. -/
import Derived.Test.YtllpmepmgnnoaaaGreatVh
namespace Go.Proofs.YtllpmepmgnnoaaaGreat
set_option linter.unusedVariables false
open Go.RowKit

def exS (s : List Hd) (xs : List Int) (T : Int) : List Hd := keepS (s.filter fun x => decide (x.1 ∈ xs)) (dif xs (ad s)) T
def wantS (s : List Hd) : List Int := ad (s.filter fun x => decide (0 < x.2))
theorem exS_inc {s : List Hd} {xs : List Int} (T : Int) (h : Inc (ad s)) (hx : Inc xs) : Inc (ad (exS s xs T)) := keepS_inc _ (ad_filter_inc _ h) (dif_inc hx h)
theorem wantS_inc {s : List Hd} (h : Inc (ad s)) : Inc (wantS s) := ad_filter_inc _ h
theorem wantS_len (s : List Hd) : (wantS s).length ≤ s.length := by unfold wantS; rw [ad_len]; exact List.length_filter_le _ _
theorem exS_len (s : List Hd) (xs : List Int) (T : Int) : (exS s xs T).length ≤ 2 * s.length + xs.length := by
  have h1 := keepS_len (s.filter fun x => decide (x.1 ∈ xs)) (dif xs (ad s)) T
  have h2 := List.length_filter_le (fun x : Hd => decide (x.1 ∈ xs)) s
  have h3 := those_len (fun p q => p && !q) xs (ad s)
  rw [ad_len] at h3
  unfold exS dif at *
  omega
theorem askS_inc {s : List Hd} {xs : List Int} (la : Int) (h : Inc (ad s)) (hx : Inc xs) : Inc (ad (askS s la xs)) := by
  unfold askS
  split
  · exact h
  · exact keepS_inc _ h (int_inc hx (ad_filter_inc _ h))
theorem askQ_len (g : Int) (xs : List Int) : (askQ g xs).length ≤ 1 := by unfold askQ; split <;> simp
set_option maxRecDepth 100000 in
set_option maxHeartbeats 16000000 in
theorem mAllow (g : Int) (ex : Bool) (left : Int) (a : Option Addr) (n c : Nat) (kp la : Int) (s : List Hd) (b : Option Addr) (ln lc : Nat) (xs : List Int) (w : World)
    (hx : s.length = n) (hn : n ≤ 1000) (hH : HT w a s) (hi : Inc (ad s)) (hl : xs.length = ln) (hln : ln ≤ 1000) (hA : As w b xs) (hxi : Inc xs) (hT : (1 ≤ la ∧ la ≤ 1000000) ∧ (0 ≤ kp ∧ kp ≤ 1000000) ∧ (0 ≤ left ∧ left ≤ 1000000) ∧ (0 ≤ g ∧ g ≤ 4294967295)) :
    Calls Tryz.prog 42 #[.agg #[.int .u32 g, .bool ex, .int .i64 left, .slice a n c, .int .i64 kp, .int .i64 la, .slice none 0 0], .slice b ln lc] w fun e w' =>
      OutA w e w' g ex left (keepS s xs kp) kp la [] := by
  have HX := Lib.hid hx
  have HH := Lib.hid hH
  have HI := Lib.hid hi
  have HL := Lib.hid hl
  have HA := Lib.hid hA
  have HXI := Lib.hid hxi
  have HT := Lib.hid hT
  clear hx hH hi hl hA hxi hT
  obtain ⟨w2, hw2⟩ : ∃ w2, w2 = (w.alloc (.cells #[.int .u32 g, .bool ex, .int .i64 left, .slice a n c, .int .i64 kp, .int .i64 la, .slice none 0 0] 58)).alloc (.cells #[.int .u32 0, .bool false, .int .i64 0, .slice none 0 0, .int .i64 0, .int .i64 0, .slice none 0 0] 58) := ⟨_, rfl⟩
  obtain ⟨hs2, v0, v1, hB2⟩ := mk2 w g ex left a n c kp la none 0 0 w2 hw2
  have HS2 := Lib.hid hs2
  have HB2 := Lib.hid hB2
  have V0 := Lib.hid v0
  have V1 := Lib.hid v1
  clear hs2 v0 v1 hB2
  go_enter Tryz.func42, Tryz.ntmps42
  go_wp2_with fail
  rw [← hw2]
  clear hw2
  refine (mKeep g ex left a n c kp la none 0 0 s b ln lc xs kp w2 HX.out (by omega) (HH.out.1.below HB2.out) HI.out HL.out (by omega) (HA.out.below HB2.out) HXI.out (by have := HT.out; omega)).mono ?_
  rintro e w3 ⟨⟨a3, c3, rfl, hH3⟩, hb3⟩
  have H3 := Lib.hid hH3
  have V13 := Lib.hid (V1.out.below hb3 V1.out.lt)
  have HB3 := Lib.hid (HB2.out.trans (hb3.mono HB2.out.size))
  clear hH3 hb3 V0 V1 HB2
  obtain ⟨d0, d1, d2, d3, d4, d5, d6, e0, e1, e2, e3, e4, e5, e6⟩ := V13.out.cells
  go_wp2_with fail
  refine ret_cell1 (p := 4) rfl rfl rfl (V13.out.store g ex left a3 _ c3 kp la none 0 0).load ?_
  have BS := V13.out.store_but g ex left a3 (keepS s xs kp).length c3 kp la none 0 0
  exact ⟨⟨a3, c3, none, 0, [], rfl, H3.out.other V13.out.noH BS, rfl, Qs.nil _ _⟩, HB3.out.trans (BS.below (by omega) HB3.out.size)⟩
set_option maxRecDepth 100000 in
set_option maxHeartbeats 16000000 in
theorem mIsEx (g : Int) (ex : Bool) (left : Int) (a : Option Addr) (n c : Nat) (kp la : Int) (s : List Hd) (b : Option Addr) (ln lc : Nat) (xs : List Int) (w : World)
    (hx : s.length = n) (hn : n ≤ 1000) (hH : HT w a s) (hi : Inc (ad s)) (hl : xs.length = ln) (hln : ln ≤ 1000) (hA : As w b xs) (hxi : Inc xs) (hT : (1 ≤ la ∧ la ≤ 1000000) ∧ (0 ≤ kp ∧ kp ≤ 1000000) ∧ (0 ≤ left ∧ left ≤ 1000000) ∧ (0 ≤ g ∧ g ≤ 4294967295)) :
    Calls Tryz.prog 43 #[.agg #[.int .u32 g, .bool ex, .int .i64 left, .slice a n c, .int .i64 kp, .int .i64 la, .slice none 0 0], .slice b ln lc] w fun e w' =>
      OutA w e w' g true kp (exS s xs (if ex then kp else 0)) kp la [] := by
  have HX := Lib.hid hx
  have HH := Lib.hid hH
  have HI := Lib.hid hi
  have HL := Lib.hid hl
  have HA := Lib.hid hA
  have HXI := Lib.hid hxi
  have HT := Lib.hid hT
  clear hx hH hi hl hA hxi hT
  obtain ⟨w2, hw2⟩ : ∃ w2, w2 = (w.alloc (.cells #[.int .u32 g, .bool ex, .int .i64 left, .slice a n c, .int .i64 kp, .int .i64 la, .slice none 0 0] 58)).alloc (.cells #[.int .u32 0, .bool false, .int .i64 0, .slice none 0 0, .int .i64 0, .int .i64 0, .slice none 0 0] 58) := ⟨_, rfl⟩
  obtain ⟨hs2, v0, v1, hB2⟩ := mk2 w g ex left a n c kp la none 0 0 w2 hw2
  have HS2 := Lib.hid hs2
  have HB2 := Lib.hid hB2
  have V0 := Lib.hid v0
  have V1 := Lib.hid v1
  clear hs2 v0 v1 hB2
  go_enter Tryz.func43, Tryz.ntmps43
  cases ex
  · simp only [Bool.false_eq_true, if_false]
    go_wp2_with fail
    rw [← hw2]
    clear hw2
    refine (mExclude g false left a n c kp la none 0 0 s b ln lc xs 0 w2 HX.out (by omega) (HH.out.1.below HB2.out) HI.out HL.out (by omega) (HA.out.below HB2.out) HXI.out (by have := HT.out; omega)).mono ?_
    rintro e w3 ⟨⟨a3, c3, rfl, hH3⟩, hb3⟩
    have H3 := Lib.hid hH3
    have V13 := Lib.hid (V1.out.below hb3 V1.out.lt)
    have HB3 := Lib.hid (HB2.out.trans (hb3.mono HB2.out.size))
    clear hH3 hb3 V0 V1 HB2
    obtain ⟨d0, d1, d2, d3, d4, d5, d6, e0, e1, e2, e3, e4, e5, e6⟩ := V13.out.cells
    go_wp2_with fail
    refine ret_cell1 (p := 4) rfl rfl rfl (V13.out.store g true kp a3 _ c3 kp la none 0 0).load ?_
    have BS := V13.out.store_but g true kp a3 (exS s xs 0).length c3 kp la none 0 0
    exact ⟨⟨a3, c3, none, 0, [], rfl, H3.out.other V13.out.noH BS, rfl, Qs.nil _ _⟩, HB3.out.trans (BS.below (by omega) HB3.out.size)⟩
  · simp only [if_true]
    go_wp2_with fail
    rw [← hw2]
    clear hw2
    refine (mExclude g true left a n c kp la none 0 0 s b ln lc xs kp w2 HX.out (by omega) (HH.out.1.below HB2.out) HI.out HL.out (by omega) (HA.out.below HB2.out) HXI.out (by have := HT.out; omega)).mono ?_
    rintro e w3 ⟨⟨a3, c3, rfl, hH3⟩, hb3⟩
    have H3 := Lib.hid hH3
    have V13 := Lib.hid (V1.out.below hb3 V1.out.lt)
    have HB3 := Lib.hid (HB2.out.trans (hb3.mono HB2.out.size))
    clear hH3 hb3 V0 V1 HB2
    obtain ⟨d0, d1, d2, d3, d4, d5, d6, e0, e1, e2, e3, e4, e5, e6⟩ := V13.out.cells
    go_wp2_with fail
    refine ret_cell1 (p := 4) rfl rfl rfl (V13.out.store g true kp a3 _ c3 kp la none 0 0).load ?_
    have BS := V13.out.store_but g true kp a3 (exS s xs kp).length c3 kp la none 0 0
    exact ⟨⟨a3, c3, none, 0, [], rfl, H3.out.other V13.out.noH BS, rfl, Qs.nil _ _⟩, HB3.out.trans (BS.below (by omega) HB3.out.size)⟩
def teV (N : Nat) (g : Int) (ex : Bool) (left : Int) (a : Option Addr) (n c : Nat) (kp la : Int) (b : Option Addr) (ln lc : Nat) (s : List Hd) (xs : List Int) (W0 : World) : Nat → Value → List Value → World → Prop
  | 0, v, _, _ => v = .agg #[.int .u32 g, .bool ex, .int .i64 left, .slice a n c, .int .i64 kp, .int .i64 la, .slice none 0 0]
  | 1, v, _, _ => v = .agg #[.int .u32 g, .bool ex, .int .i64 left, .slice a n c, .int .i64 kp, .int .i64 la, .slice none 0 0]
  | 2, v, _, w => ∃ (a13 : Option Addr) (c13 : Nat), v = .slice a13 (wantS s).length c13 ∧ As w a13 (wantS s) ∧ w.ownsRow 0 25 1 (.slice a13 (wantS s).length c13) (wantS s).length (va (wantS s))
  | 3, v, _, w => ∃ (a33 : Option Addr) (c33 : Nat) (aa : Option Addr) (cc : Nat) (rs : List Qr), v = .agg #[.int .u32 g, .bool ex, .int .i64 left, .slice a33 (askS s la (wantS s)).length c33, .int .i64 kp, .int .i64 la, .slice aa (List.length rs) cc] ∧ HT w a33 (askS s la (wantS s)) ∧ rs.map Qr.nm = askQ g (wantS s) ∧ Qs w W0.heap.size aa cc rs
  | 4, v, us, w => ∃ a33 c33 aa cc rs, HV w (N + 1) g ex left a33 (askS s la (wantS s)).length c33 kp la aa (List.length rs) cc ∧ HT w a33 (askS s la (wantS s)) ∧ rs.map Qr.nm = askQ g (wantS s) ∧ Qs w W0.heap.size aa cc rs ∧ ∃ W, Below W0.heap.size W0 W ∧ But1 (N + 1) W w
  | _, _, _, _ => True
def teD : Nat → List Nat
  | 2 => [1]
  | 3 => [0, 2]
  | 4 => [3]
  | _ => []
theorem te_st (N : Nat) (g : Int) (ex : Bool) (left : Int) (a : Option Addr) (n c : Nat) (kp la : Int) (b : Option Addr) (ln lc : Nat) (s : List Hd) (xs : List Int) (W0 : World) {i : Nat} {v : Value} {us : List Value} {w w' : World} (h8 : i ≠ 4) (hr : Below w.heap.size w w') (hv : teV N g ex left a n c kp la b ln lc s xs W0 i v us w) : teV N g ex left a n c kp la b ln lc s xs W0 i v us w' := by
  unfold teV at hv ⊢
  split at hv
  all_goals first
    | exact hv
    | (obtain ⟨x, y, e, h⟩ := hv; exact ⟨x, y, e, h.below hr⟩)
    | (obtain ⟨x, y, e, h⟩ := hv; exact ⟨x, y, e, own_grown h hr (Nat.le_refl _)⟩)
    | (obtain ⟨x, y, e, h, k⟩ := hv; exact ⟨x, y, e, h.below hr, own_grown k hr (Nat.le_refl _)⟩)
    | (obtain ⟨x, y, z, t, u, e, h, m, q⟩ := hv; exact ⟨x, y, z, t, u, e, h.below hr, m, q.below hr⟩)
    | exact absurd rfl h8
set_option maxRecDepth 100000 in
set_option maxHeartbeats 16000000 in
theorem mToEx (g : Int) (ex : Bool) (left : Int) (a : Option Addr) (n c : Nat) (kp la : Int) (s : List Hd) (b : Option Addr) (ln lc : Nat) (xs : List Int) (w : World)
    (hx : s.length = n) (hn : n ≤ 1000) (hH : HT w a s) (hi : Inc (ad s)) (hl : xs.length = ln) (hln : ln ≤ 1000) (hA : As w b xs) (hxi : Inc xs) (hT : (1 ≤ la ∧ la ≤ 1000000) ∧ (0 ≤ kp ∧ kp ≤ 1000000) ∧ (0 ≤ left ∧ left ≤ 1000000) ∧ (0 ≤ g ∧ g ≤ 4294967295)) :
    Calls Tryz.prog 45 #[.agg #[.int .u32 g, .bool ex, .int .i64 left, .slice a n c, .int .i64 kp, .int .i64 la, .slice none 0 0], .slice b ln lc] w fun e w' =>
      OutA w e w' g true kp (askS (exS s xs left) la (wantS (exS s xs left))) kp la (askQ g (wantS (exS s xs left))) := by
  have HX := Lib.hid hx
  have HH := Lib.hid hH
  have HI := Lib.hid hi
  have HL := Lib.hid hl
  have HA := Lib.hid hA
  have HXI := Lib.hid hxi
  have HT := Lib.hid hT
  clear hx hH hi hl hA hxi hT
  obtain ⟨w2, hw2⟩ : ∃ w2, w2 = (w.alloc (.cells #[.int .u32 g, .bool ex, .int .i64 left, .slice a n c, .int .i64 kp, .int .i64 la, .slice none 0 0] 58)).alloc (.cells #[.int .u32 0, .bool false, .int .i64 0, .slice none 0 0, .int .i64 0, .int .i64 0, .slice none 0 0] 58) := ⟨_, rfl⟩
  obtain ⟨hs2, v0, v1, hB2⟩ := mk2 w g ex left a n c kp la none 0 0 w2 hw2
  have HS2 := Lib.hid hs2
  have HB2 := Lib.hid hB2
  have V0 := Lib.hid v0
  have V1 := Lib.hid v1
  clear hs2 v0 v1 hB2
  go_enter Tryz.func45, Tryz.ntmps45
  go_wp2_with fail
  rw [← hw2]
  clear hw2
  obtain ⟨c0, c1, c2, c3, c4, c5, c6, f0, f1, f2, f3, f4, f5, f6⟩ := V0.out.cells
  refine (mExclude g ex left a n c kp la none 0 0 s b ln lc xs left w2 HX.out (by omega) (HH.out.1.below HB2.out) HI.out HL.out (by omega) (HA.out.below HB2.out) HXI.out (by have := HT.out; omega)).mono ?_
  rintro e w3 ⟨⟨az, cz, rfl, hH3⟩, hb3⟩
  have H3 := Lib.hid hH3
  have V03 := Lib.hid (V0.out.below hb3 V0.out.lt)
  have V13 := Lib.hid (V1.out.below hb3 V1.out.lt)
  have HB3 := Lib.hid (HB2.out.trans (hb3.mono HB2.out.size))
  clear hH3 hb3 V0 V1 HB2 c0 c1 c2 c3 c4 c5 c6 f0 f1 f2 f3 f4 f5 f6
  obtain ⟨c0, c1, c2, c3, c4, c5, c6, f0, f1, f2, f3, f4, f5, f6⟩ := V03.out.cells
  have HZ : Hid (exS s xs left = keepS (s.filter fun x => decide (x.1 ∈ xs)) (dif xs (ad s)) left) := Lib.hid rfl
  rw [← HZ.out] at H3
  rw [← HZ.out]
  have HSI := Lib.hid (exS_inc left HI.out HXI.out)
  have hzl : (exS s xs left).length ≤ 3000 := Nat.le_trans (exS_len s xs left) (by have := HX.out; have := HL.out; omega)
  obtain ⟨sz, hsz⟩ : ∃ sz, exS s xs left = sz := ⟨_, rfl⟩
  rw [hsz] at HSI hzl H3 ⊢
  have HSZ := Lib.hid hsz
  obtain ⟨nz, hnz⟩ : ∃ nz, sz.length = nz := ⟨_, rfl⟩
  rw [hnz] at hzl ⊢
  have HSX := Lib.hid hnz
  clear hsz hnz HZ
  go_wp2
  have BS := V03.out.store_but g true kp az nz cz kp la none 0 0
  have V0 := Lib.hid (V03.out.store g true kp az nz cz kp la none 0 0)
  have V1 := Lib.hid (V13.out.but BS (by omega))
  have HSS := Lib.hid (H3.out.other V03.out.noH BS)
  have HBZ := Lib.hid (HB3.out.trans (BS.below (Nat.le_refl _) HB3.out.size))
  clear c0 c1 c2 c3 c4 c5 c6 f0 f1 f2 f3 f4 f5 f6 BS V03 V13 H3 HB3
  generalize (((((((w3.setCell ⟨w.heap.size, 0, none⟩ (.int .u32 g)).setCell ⟨w.heap.size, 1, none⟩ (.bool true)).setCell ⟨w.heap.size, 2, none⟩ (.int .i64 kp)).setCell ⟨w.heap.size, 3, none⟩ (.slice az nz cz)).setCell ⟨w.heap.size, 4, none⟩ (.int .i64 kp)).setCell ⟨w.heap.size, 5, none⟩ (.int .i64 la)).setCell ⟨w.heap.size, 6, none⟩ (.slice none 0 0)) = wz at *
  refine wp_region_last (teV w.heap.size g true kp az nz cz kp la b ln lc sz xs wz) (fun W => Below wz.heap.size wz W) (fun _ A B => Below A.heap.size A B) teD [11, 12, 13, 14] (by kernel_rfl) (by kernel_rfl) (by kernel_rfl) (by kernel_rfl) (by kernel_rfl) (by decide) (Below.refl _ wz).drew
    (fun i j oi oj v us A B hoi hoj hij hni hw hSA hr hv => te_st _ _ _ _ _ _ _ _ _ _ _ _ _ _ _ (fun e => hni (by subst e; rfl)) hr hv)
    ⟨?_, ?_, ?_, ?_, ?_, trivial⟩ ?hend
  case refine_1 =>
    intro a' w9 hS h0 hd
    have e2 : a'.tmps[2]?.getD undef = .pointer (some ⟨w.heap.size, 0, none⟩) := vev (h0 2 (by kernel_rfl))
    obtain ⟨c0, c1, c2, c3, c4, c5, c6, f0, f1, f2, f3, f4, f5, f6⟩ := (V0.out.below hS V0.out.lt).cells
    refine Does2.value (.agg #[.int .u32 g, .bool true, .int .i64 kp, .slice az nz cz, .int .i64 kp, .int .i64 la, .slice none 0 0]) (w' := w9) ?_ ⟨rfl, fun _ => ⟨hS, Below.refl _ _⟩⟩
    clear hS h0 hd
    go_simp
  case refine_2 =>
    intro a' w9 hS h0 hd
    have e2 : a'.tmps[2]?.getD undef = .pointer (some ⟨w.heap.size, 0, none⟩) := vev (h0 2 (by kernel_rfl))
    obtain ⟨c0, c1, c2, c3, c4, c5, c6, f0, f1, f2, f3, f4, f5, f6⟩ := (V0.out.below hS V0.out.lt).cells
    refine Does2.value (.agg #[.int .u32 g, .bool true, .int .i64 kp, .slice az nz cz, .int .i64 kp, .int .i64 la, .slice none 0 0]) (w' := w9) ?_ ⟨rfl, fun _ => ⟨hS, Below.refl _ _⟩⟩
    clear hS h0 hd
    go_simp
  case refine_3 =>
    intro a' w9 hS h0 hd
    have e12 : a'.tmps[12]?.getD undef = .agg #[.int .u32 g, .bool true, .int .i64 kp, .slice az nz cz, .int .i64 kp, .int .i64 la, .slice none 0 0] := vev (hd 1 List.mem_cons_self)
    refine Does2.call 64 #[.agg #[.int .u32 g, .bool true, .int .i64 kp, .slice az nz cz, .int .i64 kp, .int .i64 la, .slice none 0 0]] (w' := w9) ?_ ((mWanted g true kp az nz cz kp la (.slice none 0 0) sz w9 HSX.out (by omega) (HSS.out.1.below hS)).mono ?_)
    · clear hS h0 hd
      go_simp
    · rintro e w8 ⟨⟨a8, c8, rfl, hA8, hf8, ho8⟩, hb⟩
      exact ⟨_, rfl, ⟨a8, c8, rfl, hA8, vown_le ho8 (Nat.zero_le _)⟩, fun _ => ⟨hS.trans (hb.mono hS.size), hb⟩⟩
  case refine_4 =>
    intro a' w9 hS h0 hd
    have e11 : a'.tmps[11]?.getD undef = .agg #[.int .u32 g, .bool true, .int .i64 kp, .slice az nz cz, .int .i64 kp, .int .i64 la, .slice none 0 0] := vev (hd 0 List.mem_cons_self)
    obtain ⟨a13, c13, e13, h13, k13⟩ := hd 2 (List.mem_cons_of_mem _ List.mem_cons_self)
    replace e13 := vev e13
    refine Does2.call 62 #[.agg #[.int .u32 g, .bool true, .int .i64 kp, .slice az nz cz, .int .i64 kp, .int .i64 la, .slice none 0 0], .slice a13 (wantS sz).length c13] (w' := w9) ?_ ((mAsk g true kp az nz cz kp la sz a13 _ c13 (wantS sz) w9 HSX.out (by omega) (HSS.out.below hS) HSI.out rfl (Nat.le_trans (wantS_len sz) (by rw [HSX.out]; omega)) (isA_iff.2 (ins_ad (ins_filter _ HSS.out.1.2))) k13 (wantS_inc HSI.out) (by have := HT.out; omega) HT.out.2.2.2).mono ?_)
    · clear hS h0 hd
      go_simp
    · rintro e w8 ⟨⟨a8, c8, aa8, cc8, rs8, rfl, hA8, hm8, hq8⟩, hb⟩
      exact ⟨_, rfl, ⟨a8, c8, aa8, cc8, rs8, rfl, hA8, hm8, hq8.le hS.size⟩, fun _ => ⟨hS.trans (hb.mono hS.size), hb⟩⟩
  case refine_5 =>
    intro a' w9 hS h0 hd
    have e4 : a'.tmps[4]?.getD undef = .pointer (some ⟨w.heap.size + 1, 0, none⟩) := vev (h0 4 (by kernel_rfl))
    obtain ⟨a33, c33, aa, cc, rs, e14, h33, m33, q33⟩ := hd 3 List.mem_cons_self
    replace e14 := vev e14
    have v1 := V1.out.below hS V1.out.lt
    obtain ⟨d0, d1, d2, d3, d4, d5, d6, e0, e1, e2, e3, e4, e5, e6⟩ := v1.cells
    have hst := v1.store g true kp a33 (askS sz la (wantS sz)).length c33 kp la aa (List.length rs) cc
    have hbt := v1.store_but g true kp a33 (askS sz la (wantS sz)).length c33 kp la aa (List.length rs) cc
    refine Does2.skip (w' := (((((((w9.setCell ⟨w.heap.size + 1, 0, none⟩ (.int .u32 g)).setCell ⟨w.heap.size + 1, 1, none⟩ (.bool true)).setCell ⟨w.heap.size + 1, 2, none⟩ (.int .i64 kp)).setCell ⟨w.heap.size + 1, 3, none⟩ (.slice a33 (askS sz la (wantS sz)).length c33)).setCell ⟨w.heap.size + 1, 4, none⟩ (.int .i64 kp)).setCell ⟨w.heap.size + 1, 5, none⟩ (.int .i64 la)).setCell ⟨w.heap.size + 1, 6, none⟩ (.slice aa (List.length rs) cc))) ?_ ⟨⟨a33, c33, aa, cc, rs, hst, h33.other v1.noH hbt, m33, q33.hv v1 hbt, w9, hS, hbt⟩, fun h => absurd rfl h⟩
    clear hS h0 hd h33 hst hbt v1 m33 q33
    go_simp
  case hend =>
    intro f w9 hv
    obtain ⟨a33, c33, aa, cc, rs, hst, h33, m33, q33, W, hbW, hbt⟩ := hv
    simp only [putAll, Act.put, List.setIfInBounds_toArray, List.set_cons_zero, List.set_cons_succ]
    have H33 := Lib.hid h33
    have M33 := Lib.hid m33
    have Q33 := Lib.hid q33
    have HLD := Lib.hid hst.load
    have HBF := Lib.hid (HBZ.out.trans ((hbW.mono HBZ.out.size).trans (hbt.below (by omega) (Nat.le_trans HBZ.out.size hbW.size))))
    clear hst h33 m33 q33 hbW hbt
    go_wp2_with fail
    refine ret_cell1 (p := 4) rfl rfl rfl HLD.out ?_
    rw [HSZ.out]
    exact ⟨⟨a33, c33, aa, cc, rs, rfl, H33.out, M33.out, Q33.out.le HBZ.out.size⟩, HBF.out⟩
end Go.Proofs.YtllpmepmgnnoaaaGreat
