/- What ToIn does. -/
import Derived.Test.YtllpmepmgnnoaaaGreatVi
namespace Go.Proofs.YtllpmepmgnnoaaaGreat
set_option linter.unusedVariables false
open Go.RowKit

def tiV (N : Nat) (g : Int) (ex : Bool) (left : Int) (a : Option Addr) (n c : Nat) (kp la : Int) (b : Option Addr) (ln lc : Nat) (s : List Hd) (xs : List Int) (W0 : World) : Nat → Value → List Value → World → Prop
  | 0, v, _, _ => v = .agg #[.int .u32 g, .bool ex, .int .i64 left, .slice a n c, .int .i64 kp, .int .i64 la, .slice none 0 0]
  | 1, v, _, _ => v = .agg #[.int .u32 g, .bool ex, .int .i64 left, .slice a n c, .int .i64 kp, .int .i64 la, .slice none 0 0]
  | 2, v, _, w => ∃ (a13 : Option Addr) (c13 : Nat), v = .slice a13 (wantS s).length c13 ∧ As w a13 (wantS s)
  | 3, v, _, _ => v = .slice b ln lc
  | 4, v, _, w => ∃ (a15 : Option Addr) (c15 : Nat), v = .slice a15 (dif (wantS s) xs).length c15 ∧ w.ownsRow 0 25 1 (.slice a15 (dif (wantS s) xs).length c15) (dif (wantS s) xs).length (va (dif (wantS s) xs))
  | 5, v, _, w => ∃ (a33 : Option Addr) (c33 : Nat) (aa : Option Addr) (cc : Nat) (rs : List Qr), v = .agg #[.int .u32 g, .bool ex, .int .i64 left, .slice a33 (askS s la (dif (wantS s) xs)).length c33, .int .i64 kp, .int .i64 la, .slice aa (List.length rs) cc] ∧ HT w a33 (askS s la (dif (wantS s) xs)) ∧ rs.map Qr.nm = askQ g (dif (wantS s) xs) ∧ Qs w W0.heap.size aa cc rs
  | 6, v, us, w => ∃ a33 c33 aa cc rs, HV w (N) g ex left a33 (askS s la (dif (wantS s) xs)).length c33 kp la aa (List.length rs) cc ∧ HT w a33 (askS s la (dif (wantS s) xs)) ∧ rs.map Qr.nm = askQ g (dif (wantS s) xs) ∧ Qs w W0.heap.size aa cc rs ∧ ∃ W, Below W0.heap.size W0 W ∧ But1 (N) W w
  | _, _, _, _ => True
def tiD : Nat → List Nat
  | 2 => [1]
  | 4 => [2, 3]
  | 5 => [0, 4]
  | 6 => [5]
  | _ => []
theorem ti_st (N : Nat) (g : Int) (ex : Bool) (left : Int) (a : Option Addr) (n c : Nat) (kp la : Int) (b : Option Addr) (ln lc : Nat) (s : List Hd) (xs : List Int) (W0 : World) {i : Nat} {v : Value} {us : List Value} {w w' : World} (h8 : i ≠ 6) (hr : Below w.heap.size w w') (hv : tiV N g ex left a n c kp la b ln lc s xs W0 i v us w) : tiV N g ex left a n c kp la b ln lc s xs W0 i v us w' := by
  unfold tiV at hv ⊢
  split at hv
  all_goals first
    | exact hv
    | (obtain ⟨x, y, e, h⟩ := hv; exact ⟨x, y, e, h.below hr⟩)
    | (obtain ⟨x, y, e, h⟩ := hv; exact ⟨x, y, e, own_grown h hr (Nat.le_refl _)⟩)
    | (obtain ⟨x, y, e, h, k⟩ := hv; exact ⟨x, y, e, h.below hr, own_grown k hr (Nat.le_refl _)⟩)
    | (obtain ⟨x, y, z, t, u, e, h, m, q⟩ := hv; exact ⟨x, y, z, t, u, e, h.below hr, m, q.below hr⟩)
    | exact absurd rfl h8
set_option maxRecDepth 100000 in
set_option maxHeartbeats 16000000 in
theorem mToIn (g : Int) (ex : Bool) (left : Int) (a : Option Addr) (n c : Nat) (kp la : Int) (s : List Hd) (b : Option Addr) (ln lc : Nat) (xs : List Int) (w : World)
    (hx : s.length = n) (hn : n ≤ 1000) (hH : HT w a s) (hi : Inc (ad s)) (hl : xs.length = ln) (hln : ln ≤ 1000) (hA : As w b xs) (hxi : Inc xs) (hT : (1 ≤ la ∧ la ≤ 1000000) ∧ (0 ≤ kp ∧ kp ≤ 1000000) ∧ (0 ≤ left ∧ left ≤ 1000000) ∧ (0 ≤ g ∧ g ≤ 4294967295)) :
    Calls Tryz.prog 44 #[.agg #[.int .u32 g, .bool ex, .int .i64 left, .slice a n c, .int .i64 kp, .int .i64 la, .slice none 0 0], .slice b ln lc] w fun e w' =>
      OutA w e w' g ex (if ex then min left la else left) (askS (keepS s xs kp) la (dif (wantS (keepS s xs kp)) xs)) kp la (askQ g (dif (wantS (keepS s xs kp)) xs) ++ (if ex then [(g, [])] else [])) := by
  obtain ⟨i0, hi0, hz0, hz1, hz2⟩ := info_parts infoQ
  have HX := Lib.hid hx
  have HH := Lib.hid hH
  have HI := Lib.hid hi
  have HL := Lib.hid hl
  have HA := Lib.hid hA
  have HXI := Lib.hid hxi
  have HT := Lib.hid hT
  clear hx hH hi hl hA hxi hT
  obtain ⟨w2, hw2⟩ : ∃ w2, w2 = (w.alloc (.cells #[.int .u32 g, .bool ex, .int .i64 left, .slice a n c, .int .i64 kp, .int .i64 la, .slice none 0 0] 58)).alloc (.cells #[.int .u32 0, .bool false, .int .i64 0, .slice none 0 0, .int .i64 0, .int .i64 0, .slice none 0 0] 58) := ⟨_, rfl⟩
  obtain ⟨hs2, v0, v1, hB2⟩ := mk2 w g ex left a n c kp la none 0 0 w2 hw2
  have HS2 := Lib.hid hs2
  have HB2 := Lib.hid hB2
  have V0 := Lib.hid v0
  have V1 := Lib.hid v1
  clear hs2 v0 v1 hB2
  go_enter Tryz.func44, Tryz.ntmps44
  go_wp2_with fail
  rw [← hw2]
  clear hw2
  refine (mKeep g ex left a n c kp la none 0 0 s b ln lc xs kp w2 HX.out (by omega) (HH.out.1.below HB2.out) HI.out HL.out (by omega) (HA.out.below HB2.out) HXI.out (by have := HT.out; omega)).mono ?_
  rintro e w3 ⟨⟨az, cz, rfl, hH3⟩, hb3⟩
  have H3 := Lib.hid hH3
  have V03 := Lib.hid (V0.out.below hb3 V0.out.lt)
  have V13 := Lib.hid (V1.out.below hb3 V1.out.lt)
  have HB3 := Lib.hid (HB2.out.trans (hb3.mono HB2.out.size))
  clear hH3 hb3 V0 V1 HB2
  obtain ⟨c0, c1, c2, c3, c4, c5, c6, f0, f1, f2, f3, f4, f5, f6⟩ := V03.out.cells
  have HSI := Lib.hid (keepS_inc (s := s) (l := xs) kp HI.out HXI.out)
  have hzl : (keepS s xs kp).length ≤ 3000 := Nat.le_trans (keepS_len s xs kp) (by have := HX.out; have := HL.out; omega)
  obtain ⟨sz, hsz⟩ : ∃ sz, keepS s xs kp = sz := ⟨_, rfl⟩
  rw [hsz] at HSI hzl H3 ⊢
  have HSZ := Lib.hid hsz
  obtain ⟨nz, hnz⟩ : ∃ nz, sz.length = nz := ⟨_, rfl⟩
  rw [hnz] at hzl ⊢
  have HSX := Lib.hid hnz
  clear hsz hnz
  go_wp2
  have BS := V03.out.store_but g ex left az nz cz kp la none 0 0
  have V0 := Lib.hid (V03.out.store g ex left az nz cz kp la none 0 0)
  have V1 := Lib.hid (V13.out.but BS (by omega))
  have HSS := Lib.hid (H3.out.other V03.out.noH BS)
  have HBZ := Lib.hid (HB3.out.trans (BS.below (Nat.le_refl _) HB3.out.size))
  have HAW := Lib.hid (HA.out.below HBZ.out)
  clear c0 c1 c2 c3 c4 c5 c6 f0 f1 f2 f3 f4 f5 f6 BS V03 V13 H3 HB3
  generalize (((((((w3.setCell ⟨w.heap.size, 0, none⟩ (.int .u32 g)).setCell ⟨w.heap.size, 1, none⟩ (.bool ex)).setCell ⟨w.heap.size, 2, none⟩ (.int .i64 left)).setCell ⟨w.heap.size, 3, none⟩ (.slice az nz cz)).setCell ⟨w.heap.size, 4, none⟩ (.int .i64 kp)).setCell ⟨w.heap.size, 5, none⟩ (.int .i64 la)).setCell ⟨w.heap.size, 6, none⟩ (.slice none 0 0)) = wz at *
  refine wp_region_last (tiV w.heap.size g ex left az nz cz kp la b ln lc sz xs wz) (fun W => Below wz.heap.size wz W) (fun _ A B => Below A.heap.size A B) tiD [11, 12, 13, 14, 15, 16] (by kernel_rfl) (by kernel_rfl) (by kernel_rfl) (by kernel_rfl) (by kernel_rfl) (by decide) (Below.refl _ wz).drew
    (fun i j oi oj v us A B hoi hoj hij hni hw hSA hr hv => ti_st _ _ _ _ _ _ _ _ _ _ _ _ _ _ _ (fun e => hni (by subst e; rfl)) hr hv)
    ⟨?_, ?_, ?_, ?_, ?_, ?_, ?_, trivial⟩ ?hend
  case refine_1 =>
    intro a' w9 hS h0 hd
    have e2 : a'.tmps[2]?.getD undef = .pointer (some ⟨w.heap.size, 0, none⟩) := vev (h0 2 (by kernel_rfl))
    obtain ⟨c0, c1, c2, c3, c4, c5, c6, f0, f1, f2, f3, f4, f5, f6⟩ := (V0.out.below hS V0.out.lt).cells
    refine Does2.value (.agg #[.int .u32 g, .bool ex, .int .i64 left, .slice az nz cz, .int .i64 kp, .int .i64 la, .slice none 0 0]) (w' := w9) ?_ ⟨rfl, fun _ => ⟨hS, Below.refl _ _⟩⟩
    clear hS h0 hd
    go_simp
  case refine_2 =>
    intro a' w9 hS h0 hd
    have e2 : a'.tmps[2]?.getD undef = .pointer (some ⟨w.heap.size, 0, none⟩) := vev (h0 2 (by kernel_rfl))
    obtain ⟨c0, c1, c2, c3, c4, c5, c6, f0, f1, f2, f3, f4, f5, f6⟩ := (V0.out.below hS V0.out.lt).cells
    refine Does2.value (.agg #[.int .u32 g, .bool ex, .int .i64 left, .slice az nz cz, .int .i64 kp, .int .i64 la, .slice none 0 0]) (w' := w9) ?_ ⟨rfl, fun _ => ⟨hS, Below.refl _ _⟩⟩
    clear hS h0 hd
    go_simp
  case refine_3 =>
    intro a' w9 hS h0 hd
    have e12 : a'.tmps[12]?.getD undef = .agg #[.int .u32 g, .bool ex, .int .i64 left, .slice az nz cz, .int .i64 kp, .int .i64 la, .slice none 0 0] := vev (hd 1 List.mem_cons_self)
    refine Does2.call 64 #[.agg #[.int .u32 g, .bool ex, .int .i64 left, .slice az nz cz, .int .i64 kp, .int .i64 la, .slice none 0 0]] (w' := w9) ?_ ((mWanted g ex left az nz cz kp la (.slice none 0 0) sz w9 HSX.out (by omega) (HSS.out.1.below hS)).mono ?_)
    · clear hS h0 hd
      go_simp
    · rintro e w8 ⟨⟨a8, c8, rfl, hA8, hf8, ho8⟩, hb⟩
      exact ⟨_, rfl, ⟨a8, c8, rfl, hA8⟩, fun _ => ⟨hS.trans (hb.mono hS.size), hb⟩⟩
  case refine_4 =>
    intro a' w9 hS h0 hd
    have e1 : a'.tmps[1]?.getD undef = .slice b ln lc := vev (h0 1 (by kernel_rfl))
    refine Does2.value (.slice b ln lc) (w' := w9) ?_ ⟨rfl, fun _ => ⟨hS, Below.refl _ _⟩⟩
    clear hS h0 hd
    go_simp
  case refine_5 =>
    intro a' w9 hS h0 hd
    obtain ⟨a13, c13, e13, h13⟩ := hd 2 List.mem_cons_self
    replace e13 := vev e13
    have e14 : a'.tmps[14]?.getD undef = .slice b ln lc := vev (hd 3 (List.mem_cons_of_mem _ List.mem_cons_self))
    refine Does2.call 63 #[.slice a13 (wantS sz).length c13, .slice b ln lc] (w' := w9) ?_ ((vMinus a13 b _ ln c13 lc (wantS sz) xs w9 rfl HL.out (Nat.le_trans (wantS_len sz) (by rw [HSX.out]; omega)) (by omega) h13 (HAW.out.below hS)).mono ?_)
    · clear hS h0 hd
      go_simp
    · rintro e w8 ⟨⟨a8, c8, rfl, hA8, hf8, ho8⟩, hb⟩
      exact ⟨_, rfl, ⟨a8, c8, rfl, vown_le ho8 (Nat.zero_le _)⟩, fun _ => ⟨hS.trans (hb.mono hS.size), hb⟩⟩
  case refine_6 =>
    intro a' w9 hS h0 hd
    have e11 : a'.tmps[11]?.getD undef = .agg #[.int .u32 g, .bool ex, .int .i64 left, .slice az nz cz, .int .i64 kp, .int .i64 la, .slice none 0 0] := vev (hd 0 List.mem_cons_self)
    obtain ⟨a15, c15, e15, k15⟩ := hd 4 (List.mem_cons_of_mem _ List.mem_cons_self)
    replace e15 := vev e15
    refine Does2.call 62 #[.agg #[.int .u32 g, .bool ex, .int .i64 left, .slice az nz cz, .int .i64 kp, .int .i64 la, .slice none 0 0], .slice a15 (dif (wantS sz) xs).length c15] (w' := w9) ?_ ((mAsk g ex left az nz cz kp la sz a15 _ c15 (dif (wantS sz) xs) w9 HSX.out (by omega) (HSS.out.below hS) HSI.out rfl (Nat.le_trans (those_len _ _ _) (by have := wantS_len sz; have := HSX.out; have := HL.out; omega)) (those_isA (isA_iff.2 (ins_ad (ins_filter _ HSS.out.1.2))) HA.out.2) k15 (dif_inc (wantS_inc HSI.out) HXI.out) (by have := HT.out; omega) HT.out.2.2.2).mono ?_)
    · clear hS h0 hd
      go_simp
    · rintro e w8 ⟨⟨a8, c8, aa8, cc8, rs8, rfl, hA8, hm8, hq8⟩, hb⟩
      exact ⟨_, rfl, ⟨a8, c8, aa8, cc8, rs8, rfl, hA8, hm8, hq8.le hS.size⟩, fun _ => ⟨hS.trans (hb.mono hS.size), hb⟩⟩
  case refine_7 =>
    intro a' w9 hS h0 hd
    have e2 : a'.tmps[2]?.getD undef = .pointer (some ⟨w.heap.size, 0, none⟩) := vev (h0 2 (by kernel_rfl))
    obtain ⟨a33, c33, aa, cc, rs, e16, h33, m33, q33⟩ := hd 5 List.mem_cons_self
    replace e16 := vev e16
    have v1 := V0.out.below hS V0.out.lt
    obtain ⟨d0, d1, d2, d3, d4, d5, d6, e0, e1, e2, e3, e4, e5, e6⟩ := v1.cells
    have hst := v1.store g ex left a33 (askS sz la (dif (wantS sz) xs)).length c33 kp la aa (List.length rs) cc
    have hbt := v1.store_but g ex left a33 (askS sz la (dif (wantS sz) xs)).length c33 kp la aa (List.length rs) cc
    refine Does2.skip (w' := (((((((w9.setCell ⟨w.heap.size, 0, none⟩ (.int .u32 g)).setCell ⟨w.heap.size, 1, none⟩ (.bool ex)).setCell ⟨w.heap.size, 2, none⟩ (.int .i64 left)).setCell ⟨w.heap.size, 3, none⟩ (.slice a33 (askS sz la (dif (wantS sz) xs)).length c33)).setCell ⟨w.heap.size, 4, none⟩ (.int .i64 kp)).setCell ⟨w.heap.size, 5, none⟩ (.int .i64 la)).setCell ⟨w.heap.size, 6, none⟩ (.slice aa (List.length rs) cc))) ?_ ⟨⟨a33, c33, aa, cc, rs, hst, h33.other v1.noH hbt, m33, q33.hv v1 hbt, w9, hS, hbt⟩, fun h => absurd rfl h⟩
    clear hS h0 hd h33 hst hbt v1 m33 q33
    go_simp
  case hend =>
    intro f w9 hv
    obtain ⟨a33, c33, aa, cc, rs, hst, h33, m33, q33, W, hbW, hbt⟩ := hv
    simp only [putAll, Act.put, List.setIfInBounds_toArray, List.set_cons_zero, List.set_cons_succ]
    have H33 := Lib.hid h33
    have M33 := Lib.hid m33
    have Q33 := Lib.hid q33
    have HZZ : Hid (w.heap.size + 2 ≤ wz.heap.size) := Lib.hid (by have := V1.out.lt; omega)
    have HZW : Hid (wz.heap.size ≤ w9.heap.size) := Lib.hid (Nat.le_trans hbW.size hbt.size)
    have V1z := Lib.hid ((V1.out.below hbW V1.out.lt).but hbt (by omega))
    have HBF := Lib.hid (HBZ.out.trans ((hbW.mono HBZ.out.size).trans (hbt.below (by omega) (Nat.le_trans HBZ.out.size hbW.size))))
    have V0z := Lib.hid hst
    have HZF : Hid (w.heap.size + 2 ≤ w9.heap.size) := Lib.hid (by have := V1z.out.lt; omega)
    clear hst h33 m33 q33 hbW hbt V0 V1
    have V0 := V0z
    have V1 := V1z
    clear V0z V1z
    cases ex
    · obtain ⟨c0, c1, c2, c3, c4, c5, c6, f0, f1, f2, f3, f4, f5, f6⟩ := V0.out.cells
      obtain ⟨d0, d1, d2, d3, d4, d5, d6, e0, e1, e2, e3, e4, e5, e6⟩ := V1.out.cells
      go_wp2_with fail
      refine ret_cell1 (p := 4) rfl rfl rfl (V1.out.store g false left a33 (askS sz la (dif (wantS sz) xs)).length c33 kp la aa (List.length rs) cc).load ?_
      have BS := V1.out.store_but g false left a33 (askS sz la (dif (wantS sz) xs)).length c33 kp la aa (List.length rs) cc
      rw [HSZ.out]
      exact ⟨⟨a33, c33, aa, cc, rs, rfl, H33.out.other V1.out.noH BS, by simpa using M33.out, (Q33.out.hv V1.out BS).le HBZ.out.size⟩, HBF.out.trans (BS.below (by omega) HBF.out.size)⟩
    · have HRL : Hid (List.length rs ≤ 1) := Lib.hid (by have := congrArg List.length M33.out; rw [List.length_map] at this; rw [this]; exact askQ_len _ _)
      obtain ⟨c0, c1, c2, c3, c4, c5, c6, f0, f1, f2, f3, f4, f5, f6⟩ := V0.out.cells
      have BS := But1.set w9 w.heap.size 2 (.int .i64 (min left la))
      have V0s := Lib.hid (V0.out.set2 (min left la))
      have V1s := Lib.hid (V1.out.but BS (by omega))
      have Q33s := Lib.hid (Q33.out.hv V0.out BS)
      have H33s := Lib.hid (H33.out.other V0.out.noH BS)
      have HBs := Lib.hid (HBF.out.trans (BS.below (Nat.le_refl _) HBF.out.size))
      have HZs : Hid (wz.heap.size ≤ (w9.setCell ⟨w.heap.size, 2, none⟩ (.int .i64 (min left la))).heap.size) := Lib.hid (Nat.le_trans HZW.out BS.size)
      have HN1 : Hid (∀ j u, ([.int .u32 g, .slice none 0 0] : List Value)[j]? = some u → ((w9.setCell ⟨w.heap.size, 2, none⟩ (.int .i64 (min left la))).alloc (.cells ([.int .u32 g, .slice none 0 0] : List Value).toArray 65)).cell? ((⟨w9.heap.size, 0, none⟩ : Addr).add j) = some u) := Lib.hid (by
        have := news_new (w9.setCell ⟨w.heap.size, 2, none⟩ (.int .i64 (min left la))) [.int .u32 g, .slice none 0 0] 65
        rwa [show (w9.setCell ⟨w.heap.size, 2, none⟩ (.int .i64 (min left la))).heap.size = w9.heap.size by simp [World.setCell]] at this)
      clear BS
      have OQ := Lib.hid Q33s.out.1
      have KEY : Hid (∀ (aq' : Option Addr) (cq' : Nat) (w' : World), Hid (w'.ownsRow wz.heap.size 65 2 (.slice aq' (List.length rs + 1) cq') (List.length rs + 1) (qv rs ++ [.int .u32 g, .slice none 0 0])) → Hid (((w9.setCell ⟨w.heap.size, 2, none⟩ (.int .i64 (min left la))).alloc (.cells ([.int .u32 g, .slice none 0 0] : List Value).toArray 65)).grownBy w' (Value.slice aa (List.length rs) cc).ownBlock) →
          Below wz.heap.size (w9.setCell ⟨w.heap.size, 2, none⟩ (.int .i64 (min left la))) w' ∧ HV w' w.heap.size g true (min left la) a33 (askS sz la (dif (wantS sz) xs)).length c33 kp la aa (List.length rs) cc ∧ HV w' (w.heap.size + 1) 0 false 0 none 0 0 0 0 none 0 0 ∧ Go.Proofs.YtllpmepmgnnoaaaGreat.HT w' a33 (askS sz la (dif (wantS sz) xs)) ∧ Qs w' wz.heap.size aq' cq' (rs ++ [⟨g, [], none, 0⟩])) := Lib.hid (by
        intro aq' cq' w' hown hg
        have hbb : Below wz.heap.size (w9.setCell ⟨w.heap.size, 2, none⟩ (.int .i64 (min left la))) w' := ((Below.refl _ (w9.setCell ⟨w.heap.size, 2, none⟩ (.int .i64 (min left la)))).alloc HZs.out _).trans (grown_below (Q33s.out.1.alloc _) hg.out (by have := HZs.out; rw [World.size_alloc]; omega))
        refine ⟨hbb, V0s.out.below hbb (by have := HZZ.out; omega), V1s.out.below hbb (by have := HZZ.out; omega), Go.Proofs.YtllpmepmgnnoaaaGreat.HT.grown (H33s.out.below (bel1 _ _)) (Q33s.out.1.alloc _) (by decide) hg.out, by rw [List.length_append, qv_append, qv_one]; exact hown.out, fun r hr => ?_⟩
        rcases List.mem_append.1 hr with h | h
        · exact ⟨(Q33s.out.2 r h).1, (Q33s.out.2 r h).2.1, own_ty ((Q33s.out.2 r h).2.2.alloc _) (Q33s.out.1.alloc _) (by decide) hg.out⟩
        · obtain rfl : r = ⟨g, [], none, 0⟩ := by simpa using h
          exact ⟨HT.out.2.2.2, (fun k hk => absurd hk (by simp)), World.ownsRow_nil _ _ _ _⟩)
      go_wp2_with ((refine wpList_app_cell rfl 35 65 i0 _ 2 32 Tryz.underlying35 hi0 hz0 hz1 hz2 rfl (by decide) (by omega) (.tmp 30) (.tmp 35) rfl wz.heap.size _ (List.length rs) (qv rs) rfl (OQ.out.alloc _) ⟨w9.heap.size, 0, none⟩ 1 [.int .u32 g, .slice none 0 0] rfl rfl HN1.out (by simp [Value.oneCell']) (by have := HRL.out; omega) (by have := HZs.out; rw [World.size_alloc]; omega) ?_; intro aq' cq' w' hown hg; obtain ⟨hbb, v0', v1', h33', q33'⟩ := KEY.out aq' cq' w' hown hg; have hbb := Lib.hid hbb; have V0' := Lib.hid v0'; have V1' := Lib.hid v1'; have H33' := Lib.hid h33'; have Q33' := Lib.hid q33'; clear v0' v1' h33' q33' c0 c1 c2 c3 c4 c5 c6 f0 f1 f2 f3 f4 f5 f6; obtain ⟨c0, c1, c2, c3, c4, c5, c6, f0, f1, f2, f3, f4, f5, f6⟩ := V0'.out.cells; obtain ⟨d0, d1, d2, d3, d4, d5, d6, e0, e1, e2, e3, e4, e5, e6⟩ := V1'.out.cells))
      have BS6 := But1.set w' w.heap.size 6 (.slice aq' (List.length rs + 1) cq')
      have V1f := Lib.hid (V1'.out.but BS6 (by omega))
      have H33f := Lib.hid (H33'.out.other V0'.out.noH BS6)
      have Q33f := Lib.hid (Q33'.out.hv V0'.out BS6)
      have HBf := Lib.hid (HBs.out.trans ((hbb.out.mono (by have := HZZ.out; omega)).trans (BS6.below (Nat.le_refl _) (by have := V0'.out.lt; omega))))
      refine ret_cell1 (p := 4) rfl rfl rfl (V1f.out.store g true (min left la) a33 (askS sz la (dif (wantS sz) xs)).length c33 kp la aq' (List.length rs + 1) cq').load ?_
      have BS := V1f.out.store_but g true (min left la) a33 (askS sz la (dif (wantS sz) xs)).length c33 kp la aq' (List.length rs + 1) cq'
      rw [HSZ.out]
      refine ⟨⟨a33, c33, aq', cq', rs ++ [⟨g, [], none, 0⟩], ?_, H33f.out.other V1f.out.noH BS, by rw [List.map_append, M33.out]; rfl, (Q33f.out.hv V1f.out BS).le HBZ.out.size⟩, HBf.out.trans (BS.below (by omega) HBf.out.size)⟩
      rw [List.length_append]
      rfl
end Go.Proofs.YtllpmepmgnnoaaaGreat
