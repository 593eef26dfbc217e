/- What ToIn does. -/
import Derived.Test.YtiabbkjmgaemaaaGreatDB0
import Derived.Test.YtiabbkjmgaemaaaGreatDB1
import Derived.Test.YtiabbkjmgaemaaaGreatDB2
import Derived.Test.YtiabbkjmgaemaaaGreatDB3
import Derived.Test.YtiabbkjmgaemaaaGreatDB4
import Derived.Test.YtiabbkjmgaemaaaGreatDB5
import Derived.Test.YtiabbkjmgaemaaaGreatDB6
import Derived.Test.YtiabbkjmgaemaaaGreatDB7
import Derived.Test.YtiabbkjmgaemaaaGreatDB8
import Derived.Test.YtiabbkjmgaemaaaGreatDB9
import Derived.MapKept
import Derived.Lib.SliceRun
namespace Go.Proofs.YtiabbkjmgaemaaaGreat
set_option linter.unusedVariables false
open Go.RowKit

def tiV (N : Nat) (g : Int) (ex : Bool) (left : Int) (a : Option Addr) (n c : Nat) (kp la : Int) (b : Option Addr) (ln lc : Nat) (s : List Hd) (xs : List Int) (W0 : World) : Nat → Value → List Value → World → Prop
  | 0, v, _, _ => v = .agg #[.int .u32 g, .bool ex, .int .i64 left, .slice a n c, .int .i64 kp, .int .i64 la, .slice none 0 0]
  | 1, v, _, _ => v = .agg #[.int .u32 g, .bool ex, .int .i64 left, .slice a n c, .int .i64 kp, .int .i64 la, .slice none 0 0]
  | 2, v, _, w => ∃ (a13 : Option Addr) (c13 : Nat), v = .slice a13 (wantS s).length c13 ∧ As w a13 (wantS s)
  | 3, v, _, _ => v = .slice b ln lc
  | 4, v, _, w => ∃ (a15 : Option Addr) (c15 : Nat), v = .slice a15 (dif (wantS s) xs).length c15 ∧ w.ownsRow 0 25 1 (.slice a15 (dif (wantS s) xs).length c15) (dif (wantS s) xs).length (va (dif (wantS s) xs))
  | 5, v, _, w => ∃ (a33 : Option Addr) (c33 : Nat) (aa : Option Addr) (cc : Nat) (rs : List Qr), v = .agg #[.int .u32 g, .bool ex, .int .i64 left, .slice a33 (askS s la (dif (wantS s) xs)).length c33, .int .i64 kp, .int .i64 la, .slice aa (List.length rs) cc] ∧ HT w a33 (askS s la (dif (wantS s) xs)) ∧ rs.map Qr.nm = askQ g (dif (wantS s) xs) ∧ Qs w W0.heap.size aa cc rs
  | 6, v, us, w => ∃ a33 c33 aa cc rs, HV w (N) g ex left a33 (askS s la (dif (wantS s) xs)).length c33 kp la aa (List.length rs) cc ∧ HT w a33 (askS s la (dif (wantS s) xs)) ∧ rs.map Qr.nm = askQ g (dif (wantS s) xs) ∧ Qs w W0.heap.size aa cc rs ∧ ∃ W, Below W0.heap.size W0 W ∧ But1 (N) W w
  | _, _, _, _ => True
def tiD : Nat → List Nat
  | 2 => [1]
  | 4 => [2, 3]
  | 5 => [0, 4]
  | 6 => [5]
  | _ => []
theorem ti_st (N : Nat) (g : Int) (ex : Bool) (left : Int) (a : Option Addr) (n c : Nat) (kp la : Int) (b : Option Addr) (ln lc : Nat) (s : List Hd) (xs : List Int) (W0 : World) {i : Nat} {v : Value} {us : List Value} {w w' : World} (h8 : i ≠ 6) (hr : Below w.heap.size w w') (hv : tiV N g ex left a n c kp la b ln lc s xs W0 i v us w) : tiV N g ex left a n c kp la b ln lc s xs W0 i v us w' := by
  unfold tiV at hv ⊢
  split at hv
  all_goals first
    | exact hv
    | (obtain ⟨x, y, e, h⟩ := hv; exact ⟨x, y, e, h.below hr⟩)
    | (obtain ⟨x, y, e, h⟩ := hv; exact ⟨x, y, e, own_grown h hr (Nat.le_refl _)⟩)
    | (obtain ⟨x, y, e, h, k⟩ := hv; exact ⟨x, y, e, h.below hr, own_grown k hr (Nat.le_refl _)⟩)
    | (obtain ⟨x, y, z, t, u, e, h, m, q⟩ := hv; exact ⟨x, y, z, t, u, e, h.below hr, m, q.below hr⟩)
    | exact absurd rfl h8
set_option maxRecDepth 100000 in
set_option maxHeartbeats 16000000 in
theorem mToIn (g : Int) (ex : Bool) (left : Int) (a : Option Addr) (n c : Nat) (kp la : Int) (s : List Hd) (b : Option Addr) (ln lc : Nat) (xs : List Int) (w : World)
    (hx : s.length = n) (hn : n ≤ 4000) (hH : HT w a s) (hi : Inc (ad s)) (hl : xs.length = ln) (hln : ln ≤ 4000) (hA : As w b xs) (hxi : Inc xs) (hT : (1 ≤ la ∧ la ≤ 1000000) ∧ (0 ≤ kp ∧ kp ≤ 1000000) ∧ (0 ≤ left ∧ left ≤ 1000000) ∧ (0 ≤ g ∧ g ≤ 4294967295)) :
    Calls Tryz.prog 77 #[.agg #[.int .u32 g, .bool ex, .int .i64 left, .slice a n c, .int .i64 kp, .int .i64 la, .slice none 0 0], .slice b ln lc] w fun e w' =>
      OutA w e w' g ex (if ex then min left la else left) (askS (keepS s xs kp) la (dif (wantS (keepS s xs kp)) xs)) kp la (askQ g (dif (wantS (keepS s xs kp)) xs) ++ (if ex then [(g, [])] else [])) := by
  obtain ⟨i0, hi0, hz0, hz1, hz2⟩ := info_parts infoQ
  have HX := Lib.hid hx
  have HH := Lib.hid hH
  have HI := Lib.hid hi
  have HL := Lib.hid hl
  have HA := Lib.hid hA
  have HXI := Lib.hid hxi
  have HT := Lib.hid hT
  clear hx hH hi hl hA hxi hT
  obtain ⟨w2, hw2⟩ : ∃ w2, w2 = (w.alloc (.cells #[.int .u32 g, .bool ex, .int .i64 left, .slice a n c, .int .i64 kp, .int .i64 la, .slice none 0 0] 95)).alloc (.cells #[.int .u32 0, .bool false, .int .i64 0, .slice none 0 0, .int .i64 0, .int .i64 0, .slice none 0 0] 95) := ⟨_, rfl⟩
  obtain ⟨hs2, v0, v1, hB2⟩ := mk2 w g ex left a n c kp la none 0 0 w2 hw2
  have HS2 := Lib.hid hs2
  have HB2 := Lib.hid hB2
  have V0 := Lib.hid v0
  have V1 := Lib.hid v1
  clear hs2 v0 v1 hB2
  go_enter Tryz.func77, Tryz.ntmps77
  go_wp2_with fail
  rw [← hw2]
  clear hw2
  refine (mKeep g ex left a n c kp la none 0 0 s b ln lc xs kp w2 HX.out (by omega) (HH.out.1.below HB2.out) HI.out HL.out (by omega) (HA.out.below HB2.out) HXI.out (by have := HT.out; omega)).mono ?_
  rintro e w3 ⟨⟨az, cz, rfl, hH3⟩, hb3⟩
  have H3 := Lib.hid hH3
  have V03 := Lib.hid (V0.out.below hb3 V0.out.lt)
  have V13 := Lib.hid (V1.out.below hb3 V1.out.lt)
  have HB3 := Lib.hid (HB2.out.trans (hb3.mono HB2.out.size))
  clear hH3 hb3 V0 V1 HB2
  obtain ⟨c0, c1, c2, c3, c4, c5, c6, f0, f1, f2, f3, f4, f5, f6⟩ := V03.out.cells
  have HSI := Lib.hid (keepS_inc (s := s) (l := xs) kp HI.out HXI.out)
  have hzl : (keepS s xs kp).length ≤ 14000 := Nat.le_trans (keepS_len s xs kp) (by have := HX.out; have := HL.out; omega)
  obtain ⟨sz, hsz⟩ : ∃ sz, keepS s xs kp = sz := ⟨_, rfl⟩
  rw [hsz] at HSI hzl H3 ⊢
  have HSZ := Lib.hid hsz
  obtain ⟨nz, hnz⟩ : ∃ nz, sz.length = nz := ⟨_, rfl⟩
  rw [hnz] at hzl ⊢
  have HSX := Lib.hid hnz
  clear hsz hnz
  go_wp2
  have BS := V03.out.store_but g ex left az nz cz kp la none 0 0
  have V0 := Lib.hid (V03.out.store g ex left az nz cz kp la none 0 0)
  have V1 := Lib.hid (V13.out.but BS (by omega))
  have HSS := Lib.hid (H3.out.other V03.out.noH BS)
  have HBZ := Lib.hid (HB3.out.trans (BS.below (Nat.le_refl _) HB3.out.size))
  have HAW := Lib.hid (HA.out.below HBZ.out)
  clear c0 c1 c2 c3 c4 c5 c6 f0 f1 f2 f3 f4 f5 f6 BS V03 V13 H3 HB3
  generalize (((((((w3.setCell ⟨w.heap.size, 0, none⟩ (.int .u32 g)).setCell ⟨w.heap.size, 1, none⟩ (.bool ex)).setCell ⟨w.heap.size, 2, none⟩ (.int .i64 left)).setCell ⟨w.heap.size, 3, none⟩ (.slice az nz cz)).setCell ⟨w.heap.size, 4, none⟩ (.int .i64 kp)).setCell ⟨w.heap.size, 5, none⟩ (.int .i64 la)).setCell ⟨w.heap.size, 6, none⟩ (.slice none 0 0)) = wz at *
  refine wp_region_last (tiV w.heap.size g ex left az nz cz kp la b ln lc sz xs wz) (fun W => Below wz.heap.size wz W) (fun _ A B => Below A.heap.size A B) tiD [11, 12, 13, 14, 15, 16] (by kernel_rfl) (by kernel_rfl) (by kernel_rfl) (by kernel_rfl) (by kernel_rfl) (by decide) (Below.refl _ wz).drew
    (fun i j oi oj v us A B hoi hoj hij hni hw hSA hr hv => ti_st _ _ _ _ _ _ _ _ _ _ _ _ _ _ _ (fun e => hni (by subst e; rfl)) hr hv)
    ⟨?_, ?_, ?_, ?_, ?_, ?_, ?_, trivial⟩ ?hend
  case refine_1 =>
    intro a' w9 hS h0 hd
    have e2 : a'.tmps[2]?.getD undef = .pointer (some ⟨w.heap.size, 0, none⟩) := vev (h0 2 (by kernel_rfl))
    obtain ⟨c0, c1, c2, c3, c4, c5, c6, f0, f1, f2, f3, f4, f5, f6⟩ := (V0.out.below hS V0.out.lt).cells
    refine Does2.value (.agg #[.int .u32 g, .bool ex, .int .i64 left, .slice az nz cz, .int .i64 kp, .int .i64 la, .slice none 0 0]) (w' := w9) ?_ ⟨rfl, fun _ => ⟨hS, Below.refl _ _⟩⟩
    clear hS h0 hd
    go_simp
  case refine_2 =>
    intro a' w9 hS h0 hd
    have e2 : a'.tmps[2]?.getD undef = .pointer (some ⟨w.heap.size, 0, none⟩) := vev (h0 2 (by kernel_rfl))
    obtain ⟨c0, c1, c2, c3, c4, c5, c6, f0, f1, f2, f3, f4, f5, f6⟩ := (V0.out.below hS V0.out.lt).cells
    refine Does2.value (.agg #[.int .u32 g, .bool ex, .int .i64 left, .slice az nz cz, .int .i64 kp, .int .i64 la, .slice none 0 0]) (w' := w9) ?_ ⟨rfl, fun _ => ⟨hS, Below.refl _ _⟩⟩
    clear hS h0 hd
    go_simp
  case refine_3 =>
    intro a' w9 hS h0 hd
    have e12 : a'.tmps[12]?.getD undef = .agg #[.int .u32 g, .bool ex, .int .i64 left, .slice az nz cz, .int .i64 kp, .int .i64 la, .slice none 0 0] := vev (hd 1 List.mem_cons_self)
    refine Does2.call 115 #[.agg #[.int .u32 g, .bool ex, .int .i64 left, .slice az nz cz, .int .i64 kp, .int .i64 la, .slice none 0 0]] (w' := w9) ?_ ((mWanted g ex left az nz cz kp la (.slice none 0 0) sz w9 HSX.out (by omega) (HSS.out.1.below hS)).mono ?_)
    · clear hS h0 hd
      go_simp
    · rintro e w8 ⟨⟨a8, c8, rfl, hA8, hf8, ho8⟩, hb⟩
      exact ⟨_, rfl, ⟨a8, c8, rfl, hA8⟩, fun _ => ⟨hS.trans (hb.mono hS.size), hb⟩⟩
  case refine_4 =>
    intro a' w9 hS h0 hd
    have e1 : a'.tmps[1]?.getD undef = .slice b ln lc := vev (h0 1 (by kernel_rfl))
    refine Does2.value (.slice b ln lc) (w' := w9) ?_ ⟨rfl, fun _ => ⟨hS, Below.refl _ _⟩⟩
    clear hS h0 hd
    go_simp
  case refine_5 =>
    intro a' w9 hS h0 hd
    obtain ⟨a13, c13, e13, h13⟩ := hd 2 List.mem_cons_self
    replace e13 := vev e13
    have e14 : a'.tmps[14]?.getD undef = .slice b ln lc := vev (hd 3 (List.mem_cons_of_mem _ List.mem_cons_self))
    refine Does2.call 114 #[.slice a13 (wantS sz).length c13, .slice b ln lc] (w' := w9) ?_ ((vMinus a13 b _ ln c13 lc (wantS sz) xs w9 rfl HL.out (Nat.le_trans (wantS_len sz) (by rw [HSX.out]; omega)) (by omega) h13 (HAW.out.below hS)).mono ?_)
    · clear hS h0 hd
      go_simp
    · rintro e w8 ⟨⟨a8, c8, rfl, hA8, hf8, ho8⟩, hb⟩
      exact ⟨_, rfl, ⟨a8, c8, rfl, vown_le ho8 (Nat.zero_le _)⟩, fun _ => ⟨hS.trans (hb.mono hS.size), hb⟩⟩
  case refine_6 =>
    intro a' w9 hS h0 hd
    have e11 : a'.tmps[11]?.getD undef = .agg #[.int .u32 g, .bool ex, .int .i64 left, .slice az nz cz, .int .i64 kp, .int .i64 la, .slice none 0 0] := vev (hd 0 List.mem_cons_self)
    obtain ⟨a15, c15, e15, k15⟩ := hd 4 (List.mem_cons_of_mem _ List.mem_cons_self)
    replace e15 := vev e15
    refine Does2.call 113 #[.agg #[.int .u32 g, .bool ex, .int .i64 left, .slice az nz cz, .int .i64 kp, .int .i64 la, .slice none 0 0], .slice a15 (dif (wantS sz) xs).length c15] (w' := w9) ?_ ((mAsk g ex left az nz cz kp la sz a15 _ c15 (dif (wantS sz) xs) w9 HSX.out (by omega) (HSS.out.below hS) HSI.out rfl (Nat.le_trans (those_len _ _ _) (by have := wantS_len sz; have := HSX.out; have := HL.out; omega)) (those_isA (isA_iff.2 (ins_ad (ins_filter _ HSS.out.1.2))) HA.out.2) k15 (dif_inc (wantS_inc HSI.out) HXI.out) (by have := HT.out; omega) HT.out.2.2.2).mono ?_)
    · clear hS h0 hd
      go_simp
    · rintro e w8 ⟨⟨a8, c8, aa8, cc8, rs8, rfl, hA8, hm8, hq8⟩, hb⟩
      exact ⟨_, rfl, ⟨a8, c8, aa8, cc8, rs8, rfl, hA8, hm8, hq8.le hS.size⟩, fun _ => ⟨hS.trans (hb.mono hS.size), hb⟩⟩
  case refine_7 =>
    intro a' w9 hS h0 hd
    have e2 : a'.tmps[2]?.getD undef = .pointer (some ⟨w.heap.size, 0, none⟩) := vev (h0 2 (by kernel_rfl))
    obtain ⟨a33, c33, aa, cc, rs, e16, h33, m33, q33⟩ := hd 5 List.mem_cons_self
    replace e16 := vev e16
    have v1 := V0.out.below hS V0.out.lt
    obtain ⟨d0, d1, d2, d3, d4, d5, d6, e0, e1, e2, e3, e4, e5, e6⟩ := v1.cells
    have hst := v1.store g ex left a33 (askS sz la (dif (wantS sz) xs)).length c33 kp la aa (List.length rs) cc
    have hbt := v1.store_but g ex left a33 (askS sz la (dif (wantS sz) xs)).length c33 kp la aa (List.length rs) cc
    refine Does2.skip (w' := (((((((w9.setCell ⟨w.heap.size, 0, none⟩ (.int .u32 g)).setCell ⟨w.heap.size, 1, none⟩ (.bool ex)).setCell ⟨w.heap.size, 2, none⟩ (.int .i64 left)).setCell ⟨w.heap.size, 3, none⟩ (.slice a33 (askS sz la (dif (wantS sz) xs)).length c33)).setCell ⟨w.heap.size, 4, none⟩ (.int .i64 kp)).setCell ⟨w.heap.size, 5, none⟩ (.int .i64 la)).setCell ⟨w.heap.size, 6, none⟩ (.slice aa (List.length rs) cc))) ?_ ⟨⟨a33, c33, aa, cc, rs, hst, h33.other v1.noH hbt, m33, q33.hv v1 hbt, w9, hS, hbt⟩, fun h => absurd rfl h⟩
    clear hS h0 hd h33 hst hbt v1 m33 q33
    go_simp
  case hend =>
    intro f w9 hv
    obtain ⟨a33, c33, aa, cc, rs, hst, h33, m33, q33, W, hbW, hbt⟩ := hv
    simp only [putAll, Act.put, List.setIfInBounds_toArray, List.set_cons_zero, List.set_cons_succ]
    have H33 := Lib.hid h33
    have M33 := Lib.hid m33
    have Q33 := Lib.hid q33
    have HZZ : Hid (w.heap.size + 2 ≤ wz.heap.size) := Lib.hid (by have := V1.out.lt; omega)
    have HZW : Hid (wz.heap.size ≤ w9.heap.size) := Lib.hid (Nat.le_trans hbW.size hbt.size)
    have V1z := Lib.hid ((V1.out.below hbW V1.out.lt).but hbt (by omega))
    have HBF := Lib.hid (HBZ.out.trans ((hbW.mono HBZ.out.size).trans (hbt.below (by omega) (Nat.le_trans HBZ.out.size hbW.size))))
    have V0z := Lib.hid hst
    have HZF : Hid (w.heap.size + 2 ≤ w9.heap.size) := Lib.hid (by have := V1z.out.lt; omega)
    clear hst h33 m33 q33 hbW hbt V0 V1
    have V0 := V0z
    have V1 := V1z
    clear V0z V1z
    cases ex
    · obtain ⟨c0, c1, c2, c3, c4, c5, c6, f0, f1, f2, f3, f4, f5, f6⟩ := V0.out.cells
      obtain ⟨d0, d1, d2, d3, d4, d5, d6, e0, e1, e2, e3, e4, e5, e6⟩ := V1.out.cells
      go_wp2_with fail
      refine ret_cell1 (p := 4) rfl rfl rfl (V1.out.store g false left a33 (askS sz la (dif (wantS sz) xs)).length c33 kp la aa (List.length rs) cc).load ?_
      have BS := V1.out.store_but g false left a33 (askS sz la (dif (wantS sz) xs)).length c33 kp la aa (List.length rs) cc
      rw [HSZ.out]
      exact ⟨⟨a33, c33, aa, cc, rs, rfl, H33.out.other V1.out.noH BS, by simpa using M33.out, (Q33.out.hv V1.out BS).le HBZ.out.size⟩, HBF.out.trans (BS.below (by omega) HBF.out.size)⟩
    · have HRL : Hid (List.length rs ≤ 1) := Lib.hid (by have := congrArg List.length M33.out; rw [List.length_map] at this; rw [this]; exact askQ_len _ _)
      obtain ⟨c0, c1, c2, c3, c4, c5, c6, f0, f1, f2, f3, f4, f5, f6⟩ := V0.out.cells
      have BS := But1.set w9 w.heap.size 2 (.int .i64 (min left la))
      have V0s := Lib.hid (V0.out.set2 (min left la))
      have V1s := Lib.hid (V1.out.but BS (by omega))
      have Q33s := Lib.hid (Q33.out.hv V0.out BS)
      have H33s := Lib.hid (H33.out.other V0.out.noH BS)
      have HBs := Lib.hid (HBF.out.trans (BS.below (Nat.le_refl _) HBF.out.size))
      have HZs : Hid (wz.heap.size ≤ (w9.setCell ⟨w.heap.size, 2, none⟩ (.int .i64 (min left la))).heap.size) := Lib.hid (Nat.le_trans HZW.out BS.size)
      have HN1 : Hid (∀ j u, ([.int .u32 g, .slice none 0 0] : List Value)[j]? = some u → ((w9.setCell ⟨w.heap.size, 2, none⟩ (.int .i64 (min left la))).alloc (.cells ([.int .u32 g, .slice none 0 0] : List Value).toArray 73)).cell? ((⟨w9.heap.size, 0, none⟩ : Addr).add j) = some u) := Lib.hid (by
        have := news_new (w9.setCell ⟨w.heap.size, 2, none⟩ (.int .i64 (min left la))) [.int .u32 g, .slice none 0 0] 73
        rwa [show (w9.setCell ⟨w.heap.size, 2, none⟩ (.int .i64 (min left la))).heap.size = w9.heap.size by simp [World.setCell]] at this)
      clear BS
      have OQ := Lib.hid Q33s.out.1
      have KEY : Hid (∀ (aq' : Option Addr) (cq' : Nat) (w' : World), Hid (w'.ownsRow wz.heap.size 73 2 (.slice aq' (List.length rs + 1) cq') (List.length rs + 1) (qv rs ++ [.int .u32 g, .slice none 0 0])) → Hid (((w9.setCell ⟨w.heap.size, 2, none⟩ (.int .i64 (min left la))).alloc (.cells ([.int .u32 g, .slice none 0 0] : List Value).toArray 73)).grownBy w' (Value.slice aa (List.length rs) cc).ownBlock) →
          Below wz.heap.size (w9.setCell ⟨w.heap.size, 2, none⟩ (.int .i64 (min left la))) w' ∧ HV w' w.heap.size g true (min left la) a33 (askS sz la (dif (wantS sz) xs)).length c33 kp la aa (List.length rs) cc ∧ HV w' (w.heap.size + 1) 0 false 0 none 0 0 0 0 none 0 0 ∧ Go.Proofs.YtiabbkjmgaemaaaGreat.HT w' a33 (askS sz la (dif (wantS sz) xs)) ∧ Qs w' wz.heap.size aq' cq' (rs ++ [⟨g, [], none, 0⟩])) := Lib.hid (by
        intro aq' cq' w' hown hg
        have hbb : Below wz.heap.size (w9.setCell ⟨w.heap.size, 2, none⟩ (.int .i64 (min left la))) w' := ((Below.refl _ (w9.setCell ⟨w.heap.size, 2, none⟩ (.int .i64 (min left la)))).alloc HZs.out _).trans (grown_below (Q33s.out.1.alloc _) hg.out (by have := HZs.out; rw [World.size_alloc]; omega))
        refine ⟨hbb, V0s.out.below hbb (by have := HZZ.out; omega), V1s.out.below hbb (by have := HZZ.out; omega), Go.Proofs.YtiabbkjmgaemaaaGreat.HT.grown (H33s.out.below (bel1 _ _)) (Q33s.out.1.alloc _) (by decide) hg.out, by rw [List.length_append, qv_append, qv_one]; exact hown.out, fun r hr => ?_⟩
        rcases List.mem_append.1 hr with h | h
        · exact ⟨(Q33s.out.2 r h).1, (Q33s.out.2 r h).2.1, own_ty ((Q33s.out.2 r h).2.2.alloc _) (Q33s.out.1.alloc _) (by decide) hg.out⟩
        · obtain rfl : r = ⟨g, [], none, 0⟩ := by simpa using h
          exact ⟨HT.out.2.2.2, (fun k hk => absurd hk (by simp)), World.ownsRow_nil _ _ _ _⟩)
      go_wp2_with ((refine wpList_app_cell rfl 35 73 i0 _ 2 32 Tryz.underlying35 hi0 hz0 hz1 hz2 rfl (by decide) (by omega) (.tmp 30) (.tmp 35) rfl wz.heap.size _ (List.length rs) (qv rs) rfl (OQ.out.alloc _) ⟨w9.heap.size, 0, none⟩ 1 [.int .u32 g, .slice none 0 0] rfl rfl HN1.out (by simp [Value.oneCell']) (by have := HRL.out; omega) (by have := HZs.out; rw [World.size_alloc]; omega) ?_; intro aq' cq' w' hown hg; obtain ⟨hbb, v0', v1', h33', q33'⟩ := KEY.out aq' cq' w' hown hg; have hbb := Lib.hid hbb; have V0' := Lib.hid v0'; have V1' := Lib.hid v1'; have H33' := Lib.hid h33'; have Q33' := Lib.hid q33'; clear v0' v1' h33' q33' c0 c1 c2 c3 c4 c5 c6 f0 f1 f2 f3 f4 f5 f6; obtain ⟨c0, c1, c2, c3, c4, c5, c6, f0, f1, f2, f3, f4, f5, f6⟩ := V0'.out.cells; obtain ⟨d0, d1, d2, d3, d4, d5, d6, e0, e1, e2, e3, e4, e5, e6⟩ := V1'.out.cells))
      have BS6 := But1.set w' w.heap.size 6 (.slice aq' (List.length rs + 1) cq')
      have V1f := Lib.hid (V1'.out.but BS6 (by omega))
      have H33f := Lib.hid (H33'.out.other V0'.out.noH BS6)
      have Q33f := Lib.hid (Q33'.out.hv V0'.out BS6)
      have HBf := Lib.hid (HBs.out.trans ((hbb.out.mono (by have := HZZ.out; omega)).trans (BS6.below (Nat.le_refl _) (by have := V0'.out.lt; omega))))
      refine ret_cell1 (p := 4) rfl rfl rfl (V1f.out.store g true (min left la) a33 (askS sz la (dif (wantS sz) xs)).length c33 kp la aq' (List.length rs + 1) cq').load ?_
      have BS := V1f.out.store_but g true (min left la) a33 (askS sz la (dif (wantS sz) xs)).length c33 kp la aq' (List.length rs + 1) cq'
      rw [HSZ.out]
      refine ⟨⟨a33, c33, aq', cq', rs ++ [⟨g, [], none, 0⟩], ?_, H33f.out.other V1f.out.noH BS, by rw [List.map_append, M33.out]; rfl, (Q33f.out.hv V1f.out BS).le HBZ.out.size⟩, HBf.out.trans (BS.below (by omega) HBf.out.size)⟩
      rw [List.length_append]
      rfl
end Go.Proofs.YtiabbkjmgaemaaaGreat
/- The same in memory of its own; what each type does, in a map. -/
namespace Go.Proofs.YtiabbkjmgaemaaaGreat
set_option linter.unusedVariables false
open Go.RowKit

theorem own_mtv (w : World) (B : Nat) (e : TypeId) (size : Nat) (hB : B ≤ w.heap.size) : (w.alloc (.cells #[] e)).ownsRow B e size (.slice (some ⟨w.heap.size, 0, none⟩) 0 0) 0 [] :=
  ⟨by simp, .inr ⟨_, 0, #[], rfl, hB, Go.Deep.blk_alloc_new _ _, Nat.le_refl _, by decide, by simp, by simp⟩⟩
theorem ret_v3 {P : Program} {fn : Func} {R : Ending → World → Prop} {a : Act} {w : World} {p u v : Nat} {ty : TypeId} {q : Addr} {x : Value} (hr : fn.results = #[.cell p ty, .tmp u, .tmp v]) (hd : a.defers = []) (hp : a.tmps.getD p undef = .pointer (some q))
    (hl : (loadVar ty q).run P w = .ok x w) (hR : R (.returned (.tuple #[x, a.tmps.getD u undef, a.tmps.getD v undef])) w) : bodyPost P fn R .ret a w := by
  refine ⟨hd, _, ?_, hR⟩
  have hp' : a.tmps[p]?.getD undef = .pointer (some q) := by simpa using hp
  simp only [results, hr]
  simp [Result.andThen, asAddr, hp', hl]
set_option maxRecDepth 100000 in
/-- slices.Clone of sources. -/
theorem lCloneH (a : Option Addr) (n c : Nat) (s : List Hd) (w : World) (hx : s.length = n) (hm : n ≤ 100000) (h : Hs w a s) (hf : True) :
    Calls Tryz.prog 80 #[.slice a n c] w fun e w' => OutK w e w' s := by
  obtain ⟨i0, hi0, hz0, hz1, hz2⟩ := info_parts infoHd
  have HX := Lib.hid hx
  match a, hf, h with
  | none, hf, h =>
    have e : s = [] := by
      rcases h.1 with e | ⟨_, _, e, _⟩
      · exact e
      · cases e
    subst e
    obtain rfl : n = 0 := by simpa using hx.symm
    clear hx
    have heq : ∀ w : World, (binOp .eql 26 (.slice none 0 c) (.slice none 0 0)).run Tryz.prog w = .ok (.bool true) w := fun w => Lib.run_eql_slice_nil w _ _ none 0 c 0 0 Tryz.underlying26
    go_enter Tryz.func80, Tryz.ntmps80
    go_wp2
    go_ret
    exact ⟨⟨none, 0, rfl, World.ownsRow_nil _ _ _ _⟩, Below.refl _ _⟩
  | some ad, hf, h =>
    have HC : Hid (∀ j u, (hv s)[j]? = some u → w.cell? (ad.add j) = some u) := Lib.hid (by
      intro j u hu
      rcases h.1 with e | ⟨b, off, e, hc⟩
      · subst e; simp [hv] at hu
      · obtain rfl : ad = ⟨b, off, none⟩ := by simpa using e
        rw [add_flat]
        exact Hs.cell ⟨.inr ⟨b, off, rfl, hc⟩, h.2⟩ j u hu)
    have OW := Lib.hid (own_mtv w w.heap.size 86 2 (Nat.le_refl _))
    have HLN : Hid ((hv s).length = n * 2) := Lib.hid (by rw [hv_len, hx])
    clear hx h hf
    have heq : ∀ w : World, (binOp .eql 26 (.slice (some ad) n c) (.slice none 0 0)).run Tryz.prog w = .ok (.bool false) w := fun w => by kernel_rfl
    go_enter Tryz.func80, Tryz.ntmps80
    go_wp2_with ((refine wpList_append_own (w.alloc (.cells #[] 86)) rfl (.tmp 5) (.tmp 6) 26 rfl w.heap.size 86 i0 _ 2 16 Tryz.underlying26 hi0 hz0 hz1 hz2 rfl (by decide) _ 0 [] rfl OW.out ad n c (hv s) rfl HLN.out (fun j u hu => (((bel1 w _).cell (cell_lt (HC.out j u hu))).trans (HC.out j u hu))) (hv_one s) (by unfold maxLen; omega) (by omega) (by simp) ?_; intro v' w' hown hg hlast))
    go_ret
    obtain ⟨a1, c1, rfl, hfl⟩ := own_sl hown
    have hb : Below w.heap.size w w' := (bel1 w _).trans (grown_below OW.out hg (by simp))
    rw [List.nil_append] at hown
    simp only [Nat.zero_add] at hown ⊢
    rw [← HX.out] at hown ⊢
    exact ⟨⟨_, _, rfl, hown⟩, hb⟩
set_option maxRecDepth 100000 in
/-- slices.Clone of addresses, wherever they lie. -/
theorem lCloneV (a : Option Addr) (n c : Nat) (xs : List Int) (w : World) (hx : xs.length = n) (hm : n ≤ 200000) (h : As w a xs) (hf : a = none → c = 0) :
    Calls Tryz.prog 81 #[.slice a n c] w fun e w' => Out w e w' xs := by
  have HX := Lib.hid hx
  match a, hf, h with
  | none, hf, h =>
    obtain rfl : c = 0 := hf rfl
    have e : xs = [] := by
      rcases h.1 with e | ⟨_, _, e, _⟩
      · exact e
      · cases e
    subst e
    obtain rfl : n = 0 := by simpa using hx.symm
    clear hx
    have heq : ∀ w : World, (binOp .eql 29 (.slice none 0 0) (.slice none 0 0)).run Tryz.prog w = .ok (.bool true) w := fun w => by kernel_rfl
    go_enter Tryz.func81, Tryz.ntmps81
    go_wp2
    go_ret
    exact ⟨⟨none, 0, rfl, As.nil _ _, .inl ⟨rfl, rfl, rfl⟩⟩, Below.refl _ _⟩
  | some ad, hf, h =>
    have H := Lib.hid h
    have OW := Lib.hid (own_mtv w w.heap.size 25 1 (Nat.le_refl _))
    clear hx h hf
    have heq : ∀ w : World, (binOp .eql 29 (.slice (some ad) n c) (.slice none 0 0)).run Tryz.prog w = .ok (.bool false) w := fun w => by kernel_rfl
    go_enter Tryz.func81, Tryz.ntmps81
    go_wp2_with ((refine wpList_app_as rfl (.tmp 5) (.tmp 6) rfl w.heap.size _ 0 [] rfl OW.out rfl (some ad) n c xs rfl HX.out (H.out.below (bel1 w _)) (by intro e; cases e) (by omega) (by simp) ?_; intro a' cap' w' hown hg))
    go_ret
    have ho := hown.out
    rw [List.nil_append] at ho
    have hb : Below w.heap.size w w' := (bel1 w _).trans (grown_below OW.out hg.out (by simp))
    simp only [Nat.zero_add] at ho ⊢
    rw [← HX.out] at ho ⊢
    obtain ⟨a1, c1, e1, hfl⟩ := own_sl ho
    cases e1
    exact ⟨⟨_, _, rfl, (AsO.of rfl ho).as H.out.2, hfl⟩, hb⟩
set_option maxHeartbeats 1000000 in
/-- The set of a row, wherever that lies. -/
theorem vMake (a : Option Addr) (n c : Nat) (xs : List Int) (w : World) (hx : xs.length = n) (hm : n ≤ 200000) (h : As w a xs) (hf : a = none → c = 0) :
    Calls Tryz.prog 44 #[.slice a n c] w fun e w' => Out w e w' (mk xs) := by
  by_cases h0 : xs = []
  · subst h0
    obtain rfl : n = 0 := by simpa using hx.symm
    have HF := Lib.hid hf
    clear hf hx h
    go_enter Tryz.func44, Tryz.ntmps44
    go_wp2_with fail
    refine (lCloneV a 0 c [] _ rfl (by omega) (As.nil _ _) HF.out).mono ?_
    rintro e w1 ⟨⟨a1, c1, rfl, hA, hfl⟩, hb⟩
    have HB := Lib.hid hb
    have HFL := Lib.hid hfl
    clear hA hb hfl
    go_wp2_with (first | (go_at_call 82; refine (sSort0 _ _ _).mono ?_; rintro e w1 ⟨rfl, rfl⟩) | (go_at_call 83; refine (lCompact0 _ _ _).mono ?_; rintro e w1 ⟨rfl, rfl⟩))
    go_ret
    exact ⟨⟨a1, c1, rfl, As.nil _ _, HFL.out⟩, HB.out⟩
  · rcases h.1 with h1 | ⟨b, off, e, _⟩
    · exact absurd h1 h0
    · exact sMake a n c xs w hx (by omega) h (.inr ⟨b, off, e⟩)
/-- What is known, handed back. -/
def OutM (w : World) (e : Ending) (w' : World) (g : Int) (ex : Bool) (left : Int) (s : List Hd) : Prop :=
  (∃ a c, e = .returned (.agg #[.int .u32 g, .bool ex, .int .i64 left, .slice a s.length c]) ∧ HT w' a s) ∧ Below w.heap.size w w'
theorem mk2m (w : World) (g : Int) (ex : Bool) (left : Int) (a : Option Addr) (n c : Nat) (W : World)
    (hW : W = (w.alloc (.cells #[.int .u32 g, .bool ex, .int .i64 left, .slice a n c] 28)).alloc (.cells #[.int .u32 0, .bool false, .int .i64 0, .slice none 0 0] 28)) :
    W.heap.size = w.heap.size + 2 ∧ MV W w.heap.size g ex left a n c ∧ MV W (w.heap.size + 1) 0 false 0 none 0 0 ∧ Below w.heap.size w W := by
  subst hW
  have e1 : (w.alloc (.cells #[.int .u32 g, .bool ex, .int .i64 left, .slice a n c] 28)).heap.size = w.heap.size + 1 := World.size_alloc _ _
  have v0 := MV.new w g ex left a n c
  have v2 := MV.new (w.alloc (.cells #[.int .u32 g, .bool ex, .int .i64 left, .slice a n c] 28)) 0 false 0 none 0 0
  rw [e1] at v2
  exact ⟨by rw [World.size_alloc, e1], v0.keep _, v2, ((Below.refl _ w).alloc (Nat.le_refl _) _).alloc (by rw [e1]; omega) _⟩
set_option maxRecDepth 100000 in
set_option maxHeartbeats 4000000 in
theorem mOwn (g : Int) (ex : Bool) (left : Int) (a : Option Addr) (n c : Nat) (s : List Hd) (w : World) (hx : s.length = n) (hm : n ≤ 100000) (h : Hs w a s) (hf : True) :
    Calls Tryz.prog 43 #[.agg #[.int .u32 g, .bool ex, .int .i64 left, .slice a n c]] w fun e w' => OutM w e w' g ex left s := by
  have HX := Lib.hid hx
  have HH := Lib.hid h
  have HF := Lib.hid hf
  clear hx h hf
  obtain ⟨w2, hw2⟩ : ∃ w2, w2 = (w.alloc (.cells #[.int .u32 g, .bool ex, .int .i64 left, .slice a n c] 28)).alloc (.cells #[.int .u32 0, .bool false, .int .i64 0, .slice none 0 0] 28) := ⟨_, rfl⟩
  obtain ⟨hs2, v0, v1, hB2⟩ := mk2m w g ex left a n c w2 hw2
  have HB2 := Lib.hid hB2
  have V0 := Lib.hid v0
  have V1 := Lib.hid v1
  clear hs2 v0 v1 hB2
  go_enter Tryz.func43, Tryz.ntmps43
  go_wp2_with fail
  rw [← hw2]
  clear hw2
  refine (lCloneH a n c s w2 HX.out hm (HH.out.below HB2.out) HF.out).mono ?_
  rintro e w3 ⟨⟨a3, c3, rfl, ho3⟩, hb3⟩
  have H3 := Lib.hid (own_ht ho3 rfl HH.out.2)
  have V03 := Lib.hid (V0.out.below hb3 V0.out.lt)
  have V13 := Lib.hid (V1.out.below hb3 V1.out.lt)
  have HB3 := Lib.hid (HB2.out.trans (hb3.mono HB2.out.size))
  clear ho3 hb3 V0 V1 HB2
  obtain ⟨c0, c1, c2, c3', f0, f1, f2, f3⟩ := V03.out.cells
  obtain ⟨d0, d1, d2, d3, e0, e1, e2, e3⟩ := V13.out.cells
  go_wp2_with fail
  have BS3 := But1.set w3 w.heap.size 3 (.slice a3 s.length c3)
  have V1f := Lib.hid (V13.out.but BS3 (by omega))
  have H3f := Lib.hid (H3.out.other V03.out.noH BS3)
  have HBf := Lib.hid (HB3.out.trans (BS3.below (Nat.le_refl _) HB3.out.size))
  refine ret_cell1 (p := 2) rfl rfl rfl (V1f.out.store g ex left a3 s.length c3).load ?_
  have BS := V1f.out.store_but g ex left a3 s.length c3
  exact ⟨⟨a3, c3, rfl, H3f.out.other V1f.out.noH BS⟩, HBf.out.trans (BS.below (by omega) HBf.out.size)⟩
theorem vfind_not (k : Int) : ∀ (l : List MapEntry) (i : Nat), (∀ e ∈ l, ∃ x, e.key = .int .u8 x ∧ k ≠ x) → Instr.findNow (.int .u8) (.int .u8 k) l i = some none
  | [], i, _ => rfl
  | e :: l, i, h => by
    obtain ⟨x, hx, hne⟩ := h e (by simp)
    have ih := vfind_not k l (i + 1) fun e' he' => h e' (by simp [he'])
    unfold Instr.findNow
    rw [hx]
    have hb : (k == x) = false := beq_eq_false_iff_ne.2 hne
    simp [Instr.sameNow, hb, ih]
theorem vrun_ins (w : World) (B : Nat) (es : Array MapEntry) (cl : Nat) (hb : w.heap[B]? = some (.map es cl)) (k : Int) (v : Value) (hk : ∀ e ∈ es.toList, ∃ x, e.key = .int .u8 x ∧ k ≠ x) :
    ∃ w', (Instr.mapUpdate 91 (.map (some B)) (.int .u8 k) v).run Tryz.prog w = .ok () w' ∧ w'.heap[B]? = some (.map (es.push ⟨.int .u8 k, v, cl⟩) (cl + 1)) ∧ ∀ C, C ≤ B → Below C w w' := by
  have hlt : B < w.heap.size := (Array.getElem?_eq_some_iff.1 hb).1
  refine ⟨{ w with heap := w.heap.setIfInBounds B (.map (es.push ⟨.int .u8 k, v, cl⟩) (cl + 1)) }, ?_, by simp [hlt], fun C hC => ⟨rfl, rfl, rfl, by simp, fun i hi => by simp only; rw [Array.getElem?_setIfInBounds_ne (by omega)]⟩⟩
  have hf := vfind_not k es.toList 0 hk
  simp [Instr.mapUpdate, run_underlying Tryz.underlying91, MapKept.run_getObj_map hb, MapKept.run_checkKey Tryz.underlying5 (k := .int .u8 k) (by simp [MapKept.IsKey]), MapKept.run_findKey Tryz.underlying5 hf, MapKept.run_setObj_map _ hb, Result.andThen]
theorem vrun_look (w : World) (B : Nat) (es : Array MapEntry) (cl : Nat) (hb : w.heap[B]? = some (.map es cl)) (k : Int) (i : Nat) (v : Value) (hf : Instr.findNow (.int .u8) (.int .u8 k) es.toList 0 = some (some (i, v))) :
    (Instr.lookup 91 (.map (some B)) (.int .u8 k) true).run Tryz.prog w = .ok (.tuple #[v, .bool true]) w := by
  simp [Instr.lookup, run_underlying Tryz.underlying91, MapKept.run_getObj_map hb, MapKept.run_checkKey Tryz.underlying5 (k := .int .u8 k) (by simp [MapKept.IsKey]), MapKept.run_findKey Tryz.underlying5 hf, Result.andThen]
theorem vrun_look_no (w : World) (B : Nat) (es : Array MapEntry) (cl : Nat) (hb : w.heap[B]? = some (.map es cl)) (k : Int) (hf : Instr.findNow (.int .u8) (.int .u8 k) es.toList 0 = some none) :
    (Instr.lookup 91 (.map (some B)) (.int .u8 k) true).run Tryz.prog w = .ok (.tuple #[.nilFunc, .bool false]) w := by
  have hz : ∀ w : World, (zeroValue 89).run Tryz.prog w = .ok .nilFunc w := fun w => by kernel_rfl
  simp [Instr.lookup, run_underlying Tryz.underlying91, MapKept.run_getObj_map hb, MapKept.run_checkKey Tryz.underlying5 (k := .int .u8 k) (by simp [MapKept.IsKey]), MapKept.run_findKey Tryz.underlying5 hf, Result.andThen, hz]
/-- What each type does. -/
def doesM : Array MapEntry := #[⟨.int .u8 1, (.func (.func 75) #[] #[]), 0⟩, ⟨.int .u8 2, (.func (.func 76) #[] #[]), 1⟩, ⟨.int .u8 3, (.func (.func 77) #[] #[]), 2⟩, ⟨.int .u8 4, (.func (.func 78) #[] #[]), 3⟩, ⟨.int .u8 5, (.func (.func 75) #[] #[]), 4⟩, ⟨.int .u8 6, (.func (.func 79) #[] #[]), 5⟩]
theorem vlook1 {w : World} {B : Nat} (hb : w.heap[B]? = some (.map doesM 6)) : (Instr.lookup 91 (.map (some B)) (.int .u8 1) true).run Tryz.prog w = .ok (.tuple #[(.func (.func 75) #[] #[]), .bool true]) w :=
  vrun_look w B _ _ hb 1 0 _ (by simp [doesM, Instr.findNow, Instr.sameNow])
theorem vlook2 {w : World} {B : Nat} (hb : w.heap[B]? = some (.map doesM 6)) : (Instr.lookup 91 (.map (some B)) (.int .u8 2) true).run Tryz.prog w = .ok (.tuple #[(.func (.func 76) #[] #[]), .bool true]) w :=
  vrun_look w B _ _ hb 2 1 _ (by simp [doesM, Instr.findNow, Instr.sameNow])
theorem vlook3 {w : World} {B : Nat} (hb : w.heap[B]? = some (.map doesM 6)) : (Instr.lookup 91 (.map (some B)) (.int .u8 3) true).run Tryz.prog w = .ok (.tuple #[(.func (.func 77) #[] #[]), .bool true]) w :=
  vrun_look w B _ _ hb 3 2 _ (by simp [doesM, Instr.findNow, Instr.sameNow])
theorem vlook4 {w : World} {B : Nat} (hb : w.heap[B]? = some (.map doesM 6)) : (Instr.lookup 91 (.map (some B)) (.int .u8 4) true).run Tryz.prog w = .ok (.tuple #[(.func (.func 78) #[] #[]), .bool true]) w :=
  vrun_look w B _ _ hb 4 3 _ (by simp [doesM, Instr.findNow, Instr.sameNow])
theorem vlook5 {w : World} {B : Nat} (hb : w.heap[B]? = some (.map doesM 6)) : (Instr.lookup 91 (.map (some B)) (.int .u8 5) true).run Tryz.prog w = .ok (.tuple #[(.func (.func 75) #[] #[]), .bool true]) w :=
  vrun_look w B _ _ hb 5 4 _ (by simp [doesM, Instr.findNow, Instr.sameNow])
theorem vlook6 {w : World} {B : Nat} (hb : w.heap[B]? = some (.map doesM 6)) : (Instr.lookup 91 (.map (some B)) (.int .u8 6) true).run Tryz.prog w = .ok (.tuple #[(.func (.func 79) #[] #[]), .bool true]) w :=
  vrun_look w B _ _ hb 6 5 _ (by simp [doesM, Instr.findNow, Instr.sameNow])
theorem vlookNo {w : World} {B : Nat} (hb : w.heap[B]? = some (.map doesM 6)) (k : Int) (hk : k < 1 ∨ 6 < k) : (Instr.lookup 91 (.map (some B)) (.int .u8 k) true).run Tryz.prog w = .ok (.tuple #[.nilFunc, .bool false]) w := by
  refine vrun_look_no w B _ _ hb k ?_
  have h1 : (k == 1) = false := beq_eq_false_iff_ne.2 fun e => (by omega)
  have h2 : (k == 2) = false := beq_eq_false_iff_ne.2 fun e => (by omega)
  have h3 : (k == 3) = false := beq_eq_false_iff_ne.2 fun e => (by omega)
  have h4 : (k == 4) = false := beq_eq_false_iff_ne.2 fun e => (by omega)
  have h5 : (k == 5) = false := beq_eq_false_iff_ne.2 fun e => (by omega)
  have h6 : (k == 6) = false := beq_eq_false_iff_ne.2 fun e => (by omega)
  simp [doesM, Instr.findNow, Instr.sameNow, h1, h2, h3, h4, h5, h6]
set_option maxHeartbeats 1000000 in
theorem mDoes (w : World) :
    Calls Tryz.prog 42 #[] w fun e w' => e = .returned (.map (some w.heap.size)) ∧ w'.heap[w.heap.size]? = some (.map doesM 6) ∧ Below w.heap.size w w' := by
  have hmm := @run_makeMap Tryz.prog 91 w
  have m0 : (w.alloc (.map #[] 0)).heap[w.heap.size]? = some (.map #[] 0) := Go.Deep.blk_alloc_new _ _
  obtain ⟨W1, r1, m1, b1⟩ := vrun_ins (w.alloc (.map #[] 0)) w.heap.size _ _ m0 1 (.func (.func 75) #[] #[]) (by simp)
  obtain ⟨W2, r2, m2, b2⟩ := vrun_ins W1 w.heap.size _ _ m1 2 (.func (.func 76) #[] #[]) (by simp)
  obtain ⟨W3, r3, m3, b3⟩ := vrun_ins W2 w.heap.size _ _ m2 3 (.func (.func 77) #[] #[]) (by simp)
  obtain ⟨W4, r4, m4, b4⟩ := vrun_ins W3 w.heap.size _ _ m3 4 (.func (.func 78) #[] #[]) (by simp)
  obtain ⟨W5, r5, m5, b5⟩ := vrun_ins W4 w.heap.size _ _ m4 5 (.func (.func 75) #[] #[]) (by simp)
  obtain ⟨W6, r6, m6, b6⟩ := vrun_ins W5 w.heap.size _ _ m5 6 (.func (.func 79) #[] #[]) (by simp)
  have B1 := Lib.hid (((((((bel1 w _).trans (b1 _ (Nat.le_refl _))).trans (b2 _ (Nat.le_refl _))).trans (b3 _ (Nat.le_refl _))).trans (b4 _ (Nat.le_refl _))).trans (b5 _ (Nat.le_refl _))).trans (b6 _ (Nat.le_refl _)))
  have M6 := Lib.hid m6
  clear m0 m1 m2 m3 m4 m5 m6 b1 b2 b3 b4 b5 b6
  go_enter Tryz.func42, Tryz.ntmps42
  go_wp2
  go_ret
  exact ⟨rfl, M6.out, B1.out⟩
end Go.Proofs.YtiabbkjmgaemaaaGreat
/- Wants, Some, and what comes of time. -/
namespace Go.Proofs.YtiabbkjmgaemaaaGreat
set_option linter.unusedVariables false
open Go.RowKit

set_option maxRecDepth 100000 in
set_option maxHeartbeats 4000000 in
/-- Where a source stands. -/
theorem lIdx (N : Nat) (x : Int) (a : Option Addr) (n c : Nat) (s : List Hd) (w : World) (hx : s.length = n) (hn : n ≤ 100000) (hH : Hs w a s) (hN : w.cell? ⟨N, 0, none⟩ = some (.int .u32 x)) :
    Calls Tryz.prog 73 #[.slice a n c, .func (.func 74) #[] #[.pointer (some ⟨N, 0, none⟩)]] w fun e w' =>
      (∃ r : Int, e = .returned (.int .i64 r) ∧ ((r = -1 ∧ x ∉ ad s) ∨ ∃ (k : Nat) (y : Hd), r = k ∧ s[k]? = some y ∧ y.1 = x)) ∧ Below w.heap.size w w' := by
  have HX := Lib.hid hx
  have HH := Lib.hid hH
  have HN := Lib.hid hN
  clear hx hH hN
  go_enter Tryz.func73, Tryz.ntmps73
  go_wp2
  go_loopw [8] (fun v wr => ∃ k : Nat, v = .int .i64 (k : Int) ∧ k ≤ n ∧ (∀ y ∈ s.take k, y.1 ≠ x) ∧ Below w.heap.size w wr) (fun v _ => n - (intOf v).toNat)
  case atStart => exact ⟨0, rfl, by omega, by simp, Below.refl _ _⟩
  case round =>
    obtain ⟨k, rfl, hk, hno, hB⟩ := hrel
    have HNO := Lib.hid hno
    have HB := Lib.hid hB
    clear hno hB
    by_cases hlt : k < n
    · obtain ⟨b, off, rfl, hc⟩ := HH.out.at (k := k) (by rw [HX.out]; exact hlt)
      obtain ⟨⟨x1, x2⟩, hfk⟩ : ∃ y, s[k]? = some y := ⟨_, List.getElem?_eq_getElem (by rw [HX.out]; exact hlt)⟩
      obtain ⟨d0, d1⟩ := (hc k _ hfk).below HB.out
      simp only at d0 d1
      have HFK := Lib.hid hfk
      have hkz : (k : Int) < (n : Int) := by omega
      clear hc hfk
      go_wp2_with fail
      refine (cWants N x (x1, x2) wr ((HB.out.cell (cell_lt HN.out)).trans HN.out)).mono ?_
      rintro e w1 ⟨rfl, hb1⟩
      have HB1 := Lib.hid (HB.out.trans (hb1.mono HB.out.size))
      clear hb1 d0 d1
      obtain ⟨q, hq⟩ : ∃ q, (((x1, x2) : Hd).1 == x) = q := ⟨_, rfl⟩
      rw [hq]
      have HQ := Lib.hid hq
      clear hq
      cases q
      · go_wp2_with fail
        go_roundw
        case rel =>
          refine ⟨k + 1, by go_num, by omega, ?_, HB1.out⟩
          rw [takeH HFK.out]
          intro y hy
          rcases List.mem_append.1 hy with h | h
          · exact HNO.out y h
          · obtain rfl : y = (x1, x2) := by simpa using h
            exact fun e => by have := HQ.out; simp only at e; subst e; simp at this
        case measure => simp [intOf]; omega
      · go_wp2_with fail
        go_ret
        exact ⟨⟨k, rfl, .inr ⟨k, (x1, x2), rfl, HFK.out, by simpa using HQ.out⟩⟩, HB1.out⟩
    · obtain rfl : k = n := by omega
      go_wp2_with fail
      go_ret
      refine ⟨⟨-1, rfl, .inl ⟨rfl, fun hm => ?_⟩⟩, HB.out⟩
      have h1 := HNO.out
      rw [List.take_of_length_le (by rw [HX.out]; exact Nat.le_refl _)] at h1
      obtain ⟨t, ht⟩ := ad_mem.1 hm
      exact h1 _ ht rfl
/-- Is a source wanted? -/
def wantsP (ex : Bool) (s : List Hd) (x : Int) : Bool := if 0 ≤ lf s x then (!ex || decide (0 < lf s x)) else ex
theorem memb_new (w : World) (v0 v1 v2 v3 : Value) (x : Value) : ∀ W, Below ((w.alloc (.cells #[v0, v1, v2, v3] 28)).alloc (.cells #[x] 25)).heap.size ((w.alloc (.cells #[v0, v1, v2, v3] 28)).alloc (.cells #[x] 25)) W →
    (W.cell? ⟨w.heap.size, 0, none⟩ = some v0 ∧ W.cell? ⟨w.heap.size, 1, none⟩ = some v1 ∧ W.cell? ⟨w.heap.size, 2, none⟩ = some v2 ∧ W.cell? ⟨w.heap.size, 3, none⟩ = some v3) ∧ W.cell? ⟨w.heap.size + 1, 0, none⟩ = some x := by
  intro W hb
  have e1 : (w.alloc (.cells #[v0, v1, v2, v3] 28)).heap.size = w.heap.size + 1 := World.size_alloc _ _
  have h1 := v_blk (Go.Deep.blk_alloc_new w (.cells #[v0, v1, v2, v3] 28)) (.cells #[x] 25)
  have h2 := Go.Deep.blk_alloc_new (w.alloc (.cells #[v0, v1, v2, v3] 28)) (.cells #[x] 25)
  rw [e1] at h2
  have k1 := (hb.block _ (Array.getElem?_eq_some_iff.1 h1).1).trans h1
  have k2 := (hb.block _ (Array.getElem?_eq_some_iff.1 h2).1).trans h2
  exact ⟨⟨by simp only [World.cell?, k1]; rfl, by simp only [World.cell?, k1]; rfl, by simp only [World.cell?, k1]; rfl, by simp only [World.cell?, k1]; rfl⟩, by simp only [World.cell?, k2]; rfl⟩
set_option maxRecDepth 100000 in
set_option maxHeartbeats 4000000 in
theorem mWants (g : Int) (ex : Bool) (left : Int) (a : Option Addr) (n c : Nat) (s : List Hd) (x : Int) (w : World) (hx : s.length = n) (hn : n ≤ 100000) (hH : Hs w a s) (hi : Inc (ad s)) (hnn : NN s) :
    Calls Tryz.prog 38 #[.agg #[.int .u32 g, .bool ex, .int .i64 left, .slice a n c], .int .u32 x] w fun e w' => e = .returned (.bool (wantsP ex s x)) ∧ Below w.heap.size w w' := by
  have HX := Lib.hid hx
  have HH := Lib.hid hH
  have HI := Lib.hid hi
  have HNN := Lib.hid hnn
  clear hx hH hi hnn
  go_enter Tryz.func38, Tryz.ntmps38
  go_wp2_with fail
  have hm := memb_new w (.int .u32 g) (.bool ex) (.int .i64 left) (.slice a n c) (.int .u32 x)
  have hb2 := bel2 w (.cells #[.int .u32 g, .bool ex, .int .i64 left, .slice a n c] 28) (.cells #[.int .u32 x] 25)
  have HB2 := Lib.hid hb2
  have HM := Lib.hid hm
  clear hm hb2
  generalize (w.alloc (.cells #[.int .u32 g, .bool ex, .int .i64 left, .slice a n c] 28)).alloc (.cells #[.int .u32 x] 25) = w2 at *
  refine (lIdx (w.heap.size + 1) x a n c s w2 HX.out hn (HH.out.below HB2.out) (HM.out w2 (Below.refl _ _)).2).mono ?_
  rintro e w3 ⟨⟨r, rfl, hr⟩, hb3⟩
  obtain ⟨⟨c0, c1, c2, c3⟩, -⟩ := HM.out w3 hb3
  have HB3 := Lib.hid (HB2.out.trans (hb3.mono HB2.out.size))
  have HH3 := Lib.hid (HH.out.below HB3.out)
  clear hb3
  rcases hr with ⟨rfl, hno⟩ | ⟨k, y, rfl, hk, rfl⟩
  · have HV : Hid (wantsP ex s x = ex) := Lib.hid (by unfold wantsP; rw [lf_none hno]; simp)
    clear hno
    go_wp2_with fail
    go_ret
    exact ⟨by rw [HV.out]; rfl, HB3.out⟩
  · obtain ⟨y1, y2⟩ := y
    have hlf : lf s y1 = y2 := lf_of HI.out (List.mem_of_getElem? hk)
    have h0 : 0 ≤ y2 := HNN.out _ (List.mem_of_getElem? hk)
    have HV : Hid (wantsP ex s y1 = (!ex || decide (0 < y2))) := Lib.hid (by unfold wantsP; rw [hlf, if_pos h0])
    have hkn : k < n := by rw [← HX.out]; exact (List.getElem?_eq_some_iff.1 hk).1
    obtain ⟨b, off, rfl, hc⟩ := HH3.out.at (k := k) (by rw [HX.out]; exact hkn)
    obtain ⟨d0, d1⟩ := hc k _ hk
    simp only at d0 d1
    have hkz : (k : Int) < (n : Int) := by omega
    have hk0 : (0 : Int) ≤ (k : Int) := by omega
    have hk1 : ¬ ((k : Int) < 0) := by omega
    clear hc hk hlf h0
    cases ex
    · go_wp2_with fail
      go_ret
      exact ⟨by rw [HV.out]; rfl, HB3.out⟩
    · go_wp2_with fail
      go_ret
      exact ⟨by rw [HV.out]; rfl, HB3.out⟩
theorem mSome (g : Int) (ex : Bool) (left : Int) (a : Option Addr) (n c : Nat) (w : World) :
    Calls Tryz.prog 39 #[.agg #[.int .u32 g, .bool ex, .int .i64 left, .slice a n c]] w fun e w' => e = .returned (.bool (ex || decide (0 < n))) ∧ Below w.heap.size w w' := by
  have h1 : decide ((0 : Int) < (n : Int)) = decide (0 < n) := decide_eq_decide.2 (by omega)
  have H1 := Lib.hid h1
  clear h1
  cases ex
  · go_enter Tryz.func39, Tryz.ntmps39
    go_wp2
    go_ret
    exact ⟨by rw [Bool.false_or, ← H1.out]; simp, bel1 w _⟩
  · go_enter Tryz.func39, Tryz.ntmps39
    go_wp2
    go_ret
    exact ⟨rfl, bel1 w _⟩
theorem vwrap {x : Int} (h0 : -9223372036854775808 ≤ x) (h1 : x ≤ 9223372036854775807) : IntKind.i64.wrap x = x := by
  simp [IntKind.wrap, IntKind.bits, IntKind.signed]; omega
theorem mLessT (x y : Int) (w : World) (h0 : -9223372036854775808 ≤ x - y) (h1 : x - y ≤ 9223372036854775807) :
    Calls Tryz.prog 106 #[.int .i64 x, .int .i64 y] w fun e w' => e = .returned (.int .i64 (max (x - y) 0)) ∧ w' = w := by
  have hw := vwrap h0 h1
  clear h0 h1
  go_enter Tryz.func106, Tryz.ntmps106
  go_wp2
  go_ret
  exact ⟨rfl, rfl⟩
end Go.Proofs.YtiabbkjmgaemaaaGreat
