/- Hear. -/
import Derived.Test.YtiabbkjmgaemaaaGreatDB0
import Derived.Test.YtiabbkjmgaemaaaGreatDB1
import Derived.Test.YtiabbkjmgaemaaaGreatDB2
import Derived.Test.YtiabbkjmgaemaaaGreatDB3
import Derived.Test.YtiabbkjmgaemaaaGreatDB4
import Derived.Test.YtiabbkjmgaemaaaGreatDB5
import Derived.Test.YtiabbkjmgaemaaaGreatDB6
import Derived.Test.YtiabbkjmgaemaaaGreatDB7
import Derived.Test.YtiabbkjmgaemaaaGreatDB8
import Derived.Test.YtiabbkjmgaemaaaGreatDB9
import Derived.Test.YtiabbkjmgaemaaaGreatDB10
namespace Go.Proofs.YtiabbkjmgaemaaaGreat
set_option linter.unusedVariables false
open Go.RowKit

/-- What comes of a record: what is known then, what is asked, the error. -/
structure Hr where
  ex : Bool
  left : Int
  s : List Hd
  q : List (Int × List Int)
  er : Int
def capH (ex : Bool) (left : Int) (s : List Hd) (r : Hr) : Hr := if r.s.length ≤ 64 then r else ⟨ex, left, s, [], 7⟩
def hAllow (g kp la : Int) (ex : Bool) (left : Int) (s : List Hd) (B : List Int) : Hr := ⟨ex, left, keepS s B kp, [], 0⟩
def hIsEx (g kp la : Int) (ex : Bool) (left : Int) (s : List Hd) (B : List Int) : Hr := ⟨true, kp, exS s B (if ex then kp else 0), [], 0⟩
def hToIn (g kp la : Int) (ex : Bool) (left : Int) (s : List Hd) (B : List Int) : Hr := ⟨ex, if ex then min left la else left, askS (keepS s B kp) la (dif (wantS (keepS s B kp)) B), askQ g (dif (wantS (keepS s B kp)) B) ++ (if ex then [(g, [])] else []), 0⟩
def hToEx (g kp la : Int) (ex : Bool) (left : Int) (s : List Hd) (B : List Int) : Hr := ⟨true, kp, askS (exS s B left) la (wantS (exS s B left)), askQ g (wantS (exS s B left)), 0⟩
def hBlock (g kp la : Int) (ex : Bool) (left : Int) (s : List Hd) (B : List Int) : Hr := ⟨ex, left, askS (if ex then keepS s (dif B (ad s)) left else s) la (int B (wantS (if ex then keepS s (dif B (ad s)) left else s))), askQ g (int B (wantS (if ex then keepS s (dif B (ad s)) left else s))), 0⟩
def hearP (g kp la : Int) (ex : Bool) (left : Int) (s : List Hd) (kind : Int) (xs : List Int) : Hr :=
  if kind = 1 ∨ kind = 5 then capH ex left s (hAllow g kp la ex left s (mk xs)) else if kind = 2 then capH ex left s (hIsEx g kp la ex left s (mk xs)) else if kind = 3 then capH ex left s (hToIn g kp la ex left s (mk xs))
  else if kind = 4 then capH ex left s (hToEx g kp la ex left s (mk xs)) else if kind = 6 then capH ex left s (hBlock g kp la ex left s (mk xs)) else ⟨ex, left, s, [], 1⟩
/-- What Hear hands back. -/
def OutHe (w : World) (e : Ending) (w' : World) (g : Int) (r : Hr) : Prop :=
  (∃ a c aa cc rs, e = .returned (.tuple #[.agg #[.int .u32 g, .bool r.ex, .int .i64 r.left, .slice a r.s.length c], .slice aa (List.length rs) cc, .int .i64 r.er]) ∧ HT w' a r.s ∧ rs.map Qr.nm = r.q ∧ Qs w' w.heap.size aa cc rs) ∧ Below w.heap.size w w'
theorem mk3h (w : World) (kp la g : Int) (ex : Bool) (left : Int) (a : Option Addr) (n c : Nat) (W : World)
    (hW : W = ((w.alloc (.cells #[.int .i64 kp, .int .i64 la] 23)).alloc (.cells #[.int .u32 g, .bool ex, .int .i64 left, .slice a n c] 28)).alloc (.cells #[.int .u32 0, .bool false, .int .i64 0, .slice none 0 0] 28)) :
    W.heap.size = w.heap.size + 3 ∧ (W.cell? ⟨w.heap.size, 0, none⟩ = some (.int .i64 kp) ∧ W.cell? ⟨w.heap.size, 1, none⟩ = some (.int .i64 la)) ∧ MV W (w.heap.size + 1) g ex left a n c ∧ MV W (w.heap.size + 2) 0 false 0 none 0 0 ∧ Below w.heap.size w W := by
  subst hW
  have e1 : (w.alloc (.cells #[.int .i64 kp, .int .i64 la] 23)).heap.size = w.heap.size + 1 := World.size_alloc _ _
  have e2 : ((w.alloc (.cells #[.int .i64 kp, .int .i64 la] 23)).alloc (.cells #[.int .u32 g, .bool ex, .int .i64 left, .slice a n c] 28)).heap.size = w.heap.size + 2 := by rw [World.size_alloc, e1]
  have l0 := v_blk (v_blk (Go.Deep.blk_alloc_new w (.cells #[.int .i64 kp, .int .i64 la] 23)) (.cells #[.int .u32 g, .bool ex, .int .i64 left, .slice a n c] 28)) (.cells #[.int .u32 0, .bool false, .int .i64 0, .slice none 0 0] 28)
  have v0 := MV.new (w.alloc (.cells #[.int .i64 kp, .int .i64 la] 23)) g ex left a n c
  rw [e1] at v0
  have v2 := MV.new ((w.alloc (.cells #[.int .i64 kp, .int .i64 la] 23)).alloc (.cells #[.int .u32 g, .bool ex, .int .i64 left, .slice a n c] 28)) 0 false 0 none 0 0
  rw [e2] at v2
  exact ⟨by rw [World.size_alloc, e2], ⟨by simp only [World.cell?, l0]; rfl, by simp only [World.cell?, l0]; rfl⟩, v0.keep _, v2, (((Below.refl _ w).alloc (Nat.le_refl _) _).alloc (by rw [e1]; omega) _).alloc (by rw [e2]; omega) _⟩
def hrV (FV : Value) (N : Nat) (kp la g : Int) (ex : Bool) (left : Int) (a : Option Addr) (n c : Nat) (b : Option Addr) (ln lc : Nat) (s : List Hd) (xs : List Int) (r : Hr) (W0 : World) : Nat → Value → List Value → World → Prop
  | 0, v, _, _ => v = FV
  | 1, v, _, _ => v = .agg #[.int .u32 g, .bool ex, .int .i64 left, .slice a n c]
  | 2, v, _, w => ∃ (a26 : Option Addr) (c26 : Nat), v = .agg #[.int .u32 g, .bool ex, .int .i64 left, .slice a26 s.length c26] ∧ HT w a26 s
  | 3, v, _, _ => v = .agg #[.int .i64 kp, .int .i64 la]
  | 4, v, _, w => ∃ (a26 : Option Addr) (c26 : Nat), v = .agg #[.int .u32 g, .bool ex, .int .i64 left, .slice a26 s.length c26, .int .i64 kp, .int .i64 la, .slice none 0 0] ∧ HT w a26 s
  | 5, v, _, _ => v = .slice b ln lc
  | 6, v, _, w => ∃ (a30 : Option Addr) (c30 : Nat), v = .slice a30 (mk xs).length c30 ∧ As w a30 (mk xs)
  | 7, v, _, w => ∃ (a31 : Option Addr) (c31 : Nat) (aa : Option Addr) (cc : Nat) (rs : List Qr), v = .agg #[.int .u32 g, .bool r.ex, .int .i64 r.left, .slice a31 r.s.length c31, .int .i64 kp, .int .i64 la, .slice aa (List.length rs) cc] ∧ HT w a31 r.s ∧ rs.map Qr.nm = r.q ∧ Qs w W0.heap.size aa cc rs
  | 8, v, _, w => ∃ (B13 : Nat), v = .pointer (some ⟨B13, 0, none⟩) ∧ HV w B13 0 false 0 none 0 0 0 0 none 0 0 ∧ W0.heap.size ≤ B13
  | 9, v, us, w => ∃ (B13 : Nat) (u2 : Value) (a31 : Option Addr) (c31 : Nat) (aa : Option Addr) (cc : Nat) (rs : List Qr), us = [.pointer (some ⟨B13, 0, none⟩), u2] ∧ HV w B13 g r.ex r.left a31 r.s.length c31 kp la aa (List.length rs) cc ∧ HT w a31 r.s ∧ rs.map Qr.nm = r.q ∧ Qs w W0.heap.size aa cc rs ∧ W0.heap.size ≤ B13 ∧ ∃ W, Below W0.heap.size W0 W ∧ But1 B13 W w
  | _, _, _, _ => True
def hrD : Nat → List Nat
  | 2 => [1]
  | 4 => [2, 3]
  | 6 => [5]
  | 7 => [0, 4, 6]
  | 9 => [8, 7]
  | _ => []
theorem hr_st (FV : Value) (N : Nat) (kp la g : Int) (ex : Bool) (left : Int) (a : Option Addr) (n c : Nat) (b : Option Addr) (ln lc : Nat) (s : List Hd) (xs : List Int) (r : Hr) (W0 : World) {i : Nat} {v : Value} {us : List Value} {w w' : World} (h8 : i ≠ 9) (hr : Below w.heap.size w w') (hv : hrV FV N kp la g ex left a n c b ln lc s xs r W0 i v us w) : hrV FV N kp la g ex left a n c b ln lc s xs r W0 i v us w' := by
  unfold hrV at hv ⊢
  split at hv
  all_goals first
    | exact hv
    | (obtain ⟨x, y, e, h⟩ := hv; exact ⟨x, y, e, h.below hr⟩)
    | (obtain ⟨x, e, h, k⟩ := hv; exact ⟨x, e, h.below hr h.lt, k⟩)
    | (obtain ⟨x, y, z, t, u, e, h, m, q⟩ := hv; exact ⟨x, y, z, t, u, e, h.below hr, m, q.below hr⟩)
    | exact absurd rfl h8
def hzV (X B13 : Nat) (g : Int) (ex : Bool) (left : Int) (a : Option Addr) (n c : Nat) (aa : Option Addr) (nq cc : Nat) : Nat → Value → List Value → World → Prop
  | 0, v, _, _ => v = .pointer (some ⟨B13, 0, none⟩)
  | 1, v, _, _ => v = .agg #[.int .u32 g, .bool ex, .int .i64 left, .slice a n c]
  | 2, v, _, _ => v = .pointer (some ⟨B13, 6, none⟩)
  | 3, v, _, _ => v = .slice aa nq cc
  | 4, v, us, w => MV w X g ex left a n c
  | 5, v, _, _ => v = .slice aa nq cc
  | 6, v, _, _ => v = .int .i64 0
  | _, _, _, _ => True
def hzD : Nat → List Nat
  | 1 => [0]
  | 3 => [2]
  | 4 => [1]
  | 5 => [3]
  | _ => []
theorem hz_st (X B13 : Nat) (g : Int) (ex : Bool) (left : Int) (a : Option Addr) (n c : Nat) (aa : Option Addr) (nq cc : Nat) {i j : Nat} {v : Value} {us : List Value} {w w' : World} (hne : i ≠ j) (hr : j = 4 ∨ w = w') (hv : hzV X B13 g ex left a n c aa nq cc i v us w) : hzV X B13 g ex left a n c aa nq cc i v us w' := by
  rcases hr with hr | hr
  · unfold hzV at hv ⊢
    split at hv
    all_goals first
      | exact hv
      | exact absurd hr.symm hne
  · rw [← hr]; exact hv
set_option maxRecDepth 100000 in
set_option maxHeartbeats 16000000 in
theorem mHearNo (kind : Int) (kp la g : Int) (ex : Bool) (left : Int) (a : Option Addr) (n c : Nat) (s : List Hd) (b : Option Addr) (ln lc : Nat) (xs : List Int) (w : World)
    (hx : s.length = n) (hn : n ≤ 64) (hH : Hs w a s) (hf : True) (hi : Inc (ad s)) (hl : xs.length = ln) (hln : ln ≤ 3000) (hA : As w b xs) (hfl : b = none → lc = 0) (hT : (1 ≤ la ∧ la ≤ 1000000) ∧ (0 ≤ kp ∧ kp ≤ 1000000) ∧ (0 ≤ left ∧ left ≤ 1000000) ∧ (0 ≤ g ∧ g ≤ 4294967295)) (hk : kind < 1 ∨ 6 < kind) :
    Calls Tryz.prog 14 #[.agg #[.int .i64 kp, .int .i64 la], .agg #[.int .u32 g, .bool ex, .int .i64 left, .slice a n c], .int .u8 kind, .slice b ln lc] w fun e w' => OutHe w e w' g ⟨ex, left, s, [], 1⟩ := by
  have HX := Lib.hid hx
  have HH := Lib.hid hH
  have HF := Lib.hid hf
  have HI := Lib.hid hi
  have HL := Lib.hid hl
  have HA := Lib.hid hA
  have HFL := Lib.hid hfl
  have HT := Lib.hid hT
  clear hx hH hf hi hl hA hfl hT
  obtain ⟨w3, hw3⟩ : ∃ w3, w3 = ((w.alloc (.cells #[.int .i64 kp, .int .i64 la] 23)).alloc (.cells #[.int .u32 g, .bool ex, .int .i64 left, .slice a n c] 28)).alloc (.cells #[.int .u32 0, .bool false, .int .i64 0, .slice none 0 0] 28) := ⟨_, rfl⟩
  obtain ⟨hs3, hc, v1, v2, hB3⟩ := mk3h w kp la g ex left a n c w3 hw3
  have HS3 := Lib.hid hs3
  have HB3 := Lib.hid hB3
  have C03 := Lib.hid hc.1
  have C13 := Lib.hid hc.2
  have V13 := Lib.hid v1
  have V23 := Lib.hid v2
  clear hs3 v1 v2 hB3 hc
  go_enter Tryz.func14, Tryz.ntmps14
  go_wp2_with fail
  rw [← hw3]
  clear hw3
  refine (mDoes w3).mono ?_
  rintro e wz ⟨rfl, hmap, hb4⟩
  have V1 := Lib.hid (V13.out.below hb4 V13.out.lt)
  have V2 := Lib.hid (V23.out.below hb4 V23.out.lt)
  have C0 := Lib.hid ((hb4.cell (cell_lt C03.out)).trans C03.out)
  have C1 := Lib.hid ((hb4.cell (cell_lt C13.out)).trans C13.out)
  have HBZ := Lib.hid (HB3.out.trans (hb4.mono HB3.out.size))
  have HH4 := Lib.hid (HH.out.below HBZ.out)
  have HA4 := Lib.hid (HA.out.below HBZ.out)
  have hlk := vlookNo hmap kind hk
  clear hmap hb4
  obtain ⟨x0, x1, x2, x3, y0, y1, y2, y3⟩ := V1.out.cells
  obtain ⟨z0, z1, z2, z3, t0, t1, t2, t3⟩ := V2.out.cells
  go_wp2_with fail
  refine (mOwn g ex left a n c s wz HX.out (by omega) HH4.out HF.out).mono ?_
  rintro e w5 ⟨⟨a5, c5, rfl, h5⟩, hb5⟩
  have H5 := Lib.hid h5
  have V25 := Lib.hid (V2.out.below hb5 V2.out.lt)
  have HB5 := Lib.hid (HBZ.out.trans (hb5.mono HBZ.out.size))
  clear h5 hb5 x0 x1 x2 x3 y0 y1 y2 y3 z0 z1 z2 z3 t0 t1 t2 t3
  obtain ⟨z0, z1, z2, z3, t0, t1, t2, t3⟩ := V25.out.cells
  go_wp2_with fail
  refine ret_v3 (p := 8) (u := 9) (v := 10) rfl rfl rfl (V25.out.store g ex left a5 s.length c5).load ?_
  have BS := V25.out.store_but g ex left a5 s.length c5
  exact ⟨⟨a5, c5, none, 0, [], rfl, H5.out.other V25.out.noH BS, rfl, Qs.nil _ _⟩, HB5.out.trans (BS.below (by omega) HB5.out.size)⟩
set_option maxRecDepth 100000 in
set_option maxHeartbeats 16000000 in
theorem mHearAllow (kind : Int) (kp la g : Int) (ex : Bool) (left : Int) (a : Option Addr) (n c : Nat) (s : List Hd) (b : Option Addr) (ln lc : Nat) (xs : List Int) (w : World)
    (hx : s.length = n) (hn : n ≤ 64) (hH : Hs w a s) (hf : True) (hi : Inc (ad s)) (hl : xs.length = ln) (hln : ln ≤ 3000) (hA : As w b xs) (hfl : b = none → lc = 0) (hT : (1 ≤ la ∧ la ≤ 1000000) ∧ (0 ≤ kp ∧ kp ≤ 1000000) ∧ (0 ≤ left ∧ left ≤ 1000000) ∧ (0 ≤ g ∧ g ≤ 4294967295)) (hk : kind = 1 ∨ kind = 5) :
    Calls Tryz.prog 14 #[.agg #[.int .i64 kp, .int .i64 la], .agg #[.int .u32 g, .bool ex, .int .i64 left, .slice a n c], .int .u8 kind, .slice b ln lc] w fun e w' => OutHe w e w' g (capH ex left s (hAllow g kp la ex left s (mk xs))) := by
  have HX := Lib.hid hx
  have HH := Lib.hid hH
  have HF := Lib.hid hf
  have HI := Lib.hid hi
  have HL := Lib.hid hl
  have HA := Lib.hid hA
  have HFL := Lib.hid hfl
  have HT := Lib.hid hT
  clear hx hH hf hi hl hA hfl hT
  obtain ⟨w3, hw3⟩ : ∃ w3, w3 = ((w.alloc (.cells #[.int .i64 kp, .int .i64 la] 23)).alloc (.cells #[.int .u32 g, .bool ex, .int .i64 left, .slice a n c] 28)).alloc (.cells #[.int .u32 0, .bool false, .int .i64 0, .slice none 0 0] 28) := ⟨_, rfl⟩
  obtain ⟨hs3, hc, v1, v2, hB3⟩ := mk3h w kp la g ex left a n c w3 hw3
  have HS3 := Lib.hid hs3
  have HB3 := Lib.hid hB3
  have C03 := Lib.hid hc.1
  have C13 := Lib.hid hc.2
  have V13 := Lib.hid v1
  have V23 := Lib.hid v2
  clear hs3 v1 v2 hB3 hc
  go_enter Tryz.func14, Tryz.ntmps14
  go_wp2_with fail
  rw [← hw3]
  clear hw3
  refine (mDoes w3).mono ?_
  rintro e wz ⟨rfl, hmap, hb4⟩
  have V1 := Lib.hid (V13.out.below hb4 V13.out.lt)
  have V2 := Lib.hid (V23.out.below hb4 V23.out.lt)
  have C0 := Lib.hid ((hb4.cell (cell_lt C03.out)).trans C03.out)
  have C1 := Lib.hid ((hb4.cell (cell_lt C13.out)).trans C13.out)
  have HBZ := Lib.hid (HB3.out.trans (hb4.mono HB3.out.size))
  have HH4 := Lib.hid (HH.out.below HBZ.out)
  have HA4 := Lib.hid (HA.out.below HBZ.out)
  have hlk : (Instr.lookup 91 (.map (some w3.heap.size)) (.int .u8 kind) true).run Tryz.prog wz = .ok (.tuple #[(.func (.func 75) #[] #[]), .bool true]) wz := by
    rcases hk with rfl | rfl
    · exact vlook1 hmap
    · exact vlook5 hmap
  clear hmap hb4 hk
  go_wp2
  refine wp_region_last (hrV (.func (.func 75) #[] #[]) w.heap.size kp la g ex left a n c b ln lc s xs (hAllow g kp la ex left s (mk xs)) wz) (fun W => Below wz.heap.size wz W) (fun _ A B => Below A.heap.size A B) hrD [24, 25, 26, 27, 28, 29, 30, 31, 13] (by kernel_rfl) (by kernel_rfl) (by kernel_rfl) (by kernel_rfl) (by kernel_rfl) (by decide) (Below.refl _ wz).drew
    (fun i j oi oj v us A B hoi hoj hij hni hw hSA hr hv => hr_st _ _ _ _ _ _ _ _ _ _ _ _ _ _ _ _ _ (fun e => hni (by subst e; rfl)) hr hv)
    ⟨?_, ?_, ?_, ?_, ?_, ?_, ?_, ?_, ?_, ?_, trivial⟩ ?hend
  case refine_1 =>
    intro a' w9 hS h0 hd
    have e11 : a'.tmps[11]?.getD undef = .func (.func 75) #[] #[] := vev (h0 11 (by kernel_rfl))
    refine Does2.value (.func (.func 75) #[] #[]) (w' := w9) ?_ ⟨rfl, fun _ => ⟨hS, Below.refl _ _⟩⟩
    clear hS h0 hd
    go_simp
  case refine_2 =>
    intro a' w9 hS h0 hd
    have e5 : a'.tmps[5]?.getD undef = .pointer (some ⟨w.heap.size + 1, 0, none⟩) := vev (h0 5 (by kernel_rfl))
    obtain ⟨x0, x1, x2, x3, y0, y1, y2, y3⟩ := (V1.out.below hS V1.out.lt).cells
    refine Does2.value (.agg #[.int .u32 g, .bool ex, .int .i64 left, .slice a n c]) (w' := w9) ?_ ⟨rfl, fun _ => ⟨hS, Below.refl _ _⟩⟩
    clear hS h0 hd
    go_simp
  case refine_3 =>
    intro a' w9 hS h0 hd
    have e25 : a'.tmps[25]?.getD undef = .agg #[.int .u32 g, .bool ex, .int .i64 left, .slice a n c] := vev (hd 1 List.mem_cons_self)
    refine Does2.call 43 #[.agg #[.int .u32 g, .bool ex, .int .i64 left, .slice a n c]] (w' := w9) ?_ ((mOwn g ex left a n c s w9 HX.out (by omega) (HH4.out.below hS) HF.out).mono ?_)
    · clear hS h0 hd
      go_simp
    · rintro e w8 ⟨⟨a8, c8, rfl, hA8⟩, hb⟩
      exact ⟨_, rfl, ⟨a8, c8, rfl, hA8⟩, fun _ => ⟨hS.trans (hb.mono hS.size), hb⟩⟩
  case refine_4 =>
    intro a' w9 hS h0 hd
    have e4 : a'.tmps[4]?.getD undef = .pointer (some ⟨w.heap.size, 0, none⟩) := vev (h0 4 (by kernel_rfl))
    have c0 := (hS.cell (cell_lt C0.out)).trans C0.out
    have c1 := (hS.cell (cell_lt C1.out)).trans C1.out
    refine Does2.value (.agg #[.int .i64 kp, .int .i64 la]) (w' := w9) ?_ ⟨rfl, fun _ => ⟨hS, Below.refl _ _⟩⟩
    clear hS h0 hd
    go_simp
  case refine_5 =>
    intro a' w9 hS h0 hd
    obtain ⟨a26, c26, e26, h26⟩ := hd 2 List.mem_cons_self
    replace e26 := vev e26
    have e27 : a'.tmps[27]?.getD undef = .agg #[.int .i64 kp, .int .i64 la] := vev (hd 3 (List.mem_cons_of_mem _ List.mem_cons_self))
    refine Does2.value (.agg #[.int .u32 g, .bool ex, .int .i64 left, .slice a26 s.length c26, .int .i64 kp, .int .i64 la, .slice none 0 0]) (w' := w9) ?_ ⟨⟨a26, c26, rfl, h26⟩, fun _ => ⟨hS, Below.refl _ _⟩⟩
    clear hS h0 hd h26
    go_simp
  case refine_6 =>
    intro a' w9 hS h0 hd
    have e3 : a'.tmps[3]?.getD undef = .slice b ln lc := vev (h0 3 (by kernel_rfl))
    refine Does2.value (.slice b ln lc) (w' := w9) ?_ ⟨rfl, fun _ => ⟨hS, Below.refl _ _⟩⟩
    clear hS h0 hd
    go_simp
  case refine_7 =>
    intro a' w9 hS h0 hd
    have e29 : a'.tmps[29]?.getD undef = .slice b ln lc := vev (hd 5 List.mem_cons_self)
    refine Does2.call 44 #[.slice b ln lc] (w' := w9) ?_ ((vMake b ln lc xs w9 HL.out (by omega) (HA4.out.below hS) HFL.out).mono ?_)
    · clear hS h0 hd
      go_simp
    · rintro e w8 ⟨⟨a8, c8, rfl, hA8, hf8⟩, hb⟩
      exact ⟨_, rfl, ⟨a8, c8, rfl, hA8⟩, fun _ => ⟨hS.trans (hb.mono hS.size), hb⟩⟩
  case refine_8 =>
    intro a' w9 hS h0 hd
    have e24 : a'.tmps[24]?.getD undef = .func (.func 75) #[] #[] := vev (hd 0 List.mem_cons_self)
    obtain ⟨a26, c26, e28, h26⟩ := hd 4 (List.mem_cons_of_mem _ List.mem_cons_self)
    replace e28 := vev e28
    obtain ⟨a30, c30, e30, h30⟩ := hd 6 (List.mem_cons_of_mem _ (List.mem_cons_of_mem _ List.mem_cons_self))
    replace e30 := vev e30
    refine Does2.call 75 #[.agg #[.int .u32 g, .bool ex, .int .i64 left, .slice a26 s.length c26, .int .i64 kp, .int .i64 la, .slice none 0 0], .slice a30 (mk xs).length c30] (w' := w9) ?_ ((mAllow g ex left a26 _ c26 kp la s a30 _ c30 (mk xs) w9 rfl (by rw [HX.out]; omega) h26 HI.out rfl (Nat.le_trans (mk_len xs) (by rw [HL.out]; omega)) h30 (mk_inc xs) HT.out).mono ?_)
    · clear hS h0 hd
      go_simp
    · rintro e w8 ⟨⟨a8, c8, aa8, cc8, rs8, rfl, hA8, hm8, hq8⟩, hb⟩
      exact ⟨_, rfl, ⟨a8, c8, aa8, cc8, rs8, rfl, hA8, hm8, hq8.le hS.size⟩, fun _ => ⟨hS.trans (hb.mono hS.size), hb⟩⟩
  case refine_9 =>
    intro a' w9 hS h0 hd
    refine Does2.value (.pointer (some ⟨w9.heap.size, 0, none⟩)) (w' := w9.alloc (.cells #[.int .u32 0, .bool false, .int .i64 0, .slice none 0 0, .int .i64 0, .int .i64 0, .slice none 0 0] 95)) ?_ ⟨⟨w9.heap.size, rfl, HV.new w9 0 false 0 none 0 0 0 0 none 0 0, hS.size⟩, fun _ => ⟨hS.alloc hS.size _, bel1 w9 _⟩⟩
    clear hS h0 hd
    go_simp
  case refine_10 =>
    intro a' w9 hS h0 hd
    obtain ⟨B13, e13, v13, k13⟩ := hd 8 List.mem_cons_self
    replace e13 := vev e13
    obtain ⟨a31, c31, aa, cc, rs, e31, h31, m31, q31⟩ := hd 7 (List.mem_cons_of_mem _ List.mem_cons_self)
    replace e31 := vev e31
    obtain ⟨d0, d1, d2, d3, d4, d5, d6, e0, e1, e2, e3, e4, e5, e6⟩ := v13.cells
    have hst := v13.store g (hAllow g kp la ex left s (mk xs)).ex (hAllow g kp la ex left s (mk xs)).left a31 (hAllow g kp la ex left s (mk xs)).s.length c31 kp la aa (List.length rs) cc
    have hbt := v13.store_but g (hAllow g kp la ex left s (mk xs)).ex (hAllow g kp la ex left s (mk xs)).left a31 (hAllow g kp la ex left s (mk xs)).s.length c31 kp la aa (List.length rs) cc
    have hfr := h31.other v13.noH hbt
    have hqr := q31.hv v13 hbt
    have q13 : a'.eval (.tmp 13) = .pointer (some ⟨B13, 0, none⟩) := by simp [Act.eval, e13]
    refine Does2.skip (w' := (((((((w9.setCell ⟨B13, 0, none⟩ (.int .u32 g)).setCell ⟨B13, 1, none⟩ (.bool (hAllow g kp la ex left s (mk xs)).ex)).setCell ⟨B13, 2, none⟩ (.int .i64 (hAllow g kp la ex left s (mk xs)).left)).setCell ⟨B13, 3, none⟩ (.slice a31 (hAllow g kp la ex left s (mk xs)).s.length c31)).setCell ⟨B13, 4, none⟩ (.int .i64 kp)).setCell ⟨B13, 5, none⟩ (.int .i64 la)).setCell ⟨B13, 6, none⟩ (.slice aa (List.length rs) cc))) ?_ ⟨⟨B13, a'.eval (.tmp 31), a31, c31, aa, cc, rs, ?_, hst, hfr, m31, hqr, k13, w9, hS, hbt⟩, fun h => absurd rfl h⟩
    · clear hS h0 hd h31 hst hbt v13 m31 q31 hfr hqr q13
      go_simp
    · show [a'.eval (.tmp 13), a'.eval (.tmp 31)] = _
      rw [q13]
  case hend =>
    intro f w9 hv
    obtain ⟨B13, u2, a31, c31, aa, cc, rs, hu, hst, h31, m31, q31, k13, W, hbW, hbt⟩ := hv
    replace hu : [f 13, f 31] = [.pointer (some ⟨B13, 0, none⟩), u2] := hu
    simp only [List.cons.injEq, and_true] at hu
    obtain ⟨v13, -⟩ := hu
    simp only [putAll, Act.put, List.setIfInBounds_toArray, List.set_cons_zero, List.set_cons_succ, v13]
    have H31 := Lib.hid h31
    have M31 := Lib.hid m31
    have Q31 := Lib.hid q31
    have K13 := Lib.hid k13
    have VH := Lib.hid hst
    have HZ2 : Hid (w.heap.size + 3 ≤ wz.heap.size) := Lib.hid (by have := V2.out.lt; omega)
    have V1f := Lib.hid ((V1.out.below hbW V1.out.lt).but hbt (by have := V1.out.lt; omega))
    have V2f := Lib.hid ((V2.out.below hbW V2.out.lt).but hbt (by have := V2.out.lt; omega))
    have HBF := Lib.hid (HBZ.out.trans ((hbW.mono HBZ.out.size).trans (hbt.below (Nat.le_trans HBZ.out.size k13) (Nat.le_trans HBZ.out.size hbW.size))))
    clear hst h31 m31 q31 hbW hbt v13 k13 V1 V2
    have V1 := V1f
    have V2 := V2f
    clear V1f V2f
    have HHF := Lib.hid (HH.out.below HBF.out)
    obtain ⟨c0, c1, c2, c3, c4, c5, c6, f0, f1, f2, f3, f4, f5, f6⟩ := VH.out.cells
    obtain ⟨rr, hrr⟩ : ∃ rr, (hAllow g kp la ex left s (mk xs)) = rr := ⟨_, rfl⟩
    rw [hrr] at H31 M31 VH c1 c2 c3
    have HRR := Lib.hid hrr
    clear hrr
    obtain ⟨rx, rl, rn, rq, re⟩ := rr
    simp only at H31 M31 VH c1 c2 c3
    obtain ⟨nn, hnn⟩ : ∃ nn, rn.length = nn := ⟨_, rfl⟩
    rw [hnn] at VH c3
    have HNN := Lib.hid hnn
    clear hnn
    by_cases h64 : nn ≤ 64
    · have h64' : (nn : Int) ≤ 64 := by omega
      have HCP : Hid (capH ex left s ⟨rx, rl, rn, rq, re⟩ = ⟨rx, rl, rn, rq, re⟩) := Lib.hid (if_pos (by rw [HNN.out]; exact h64))
      have HER : Hid (re = 0) := Lib.hid (by have := congrArg Hr.er HRR.out; exact this.symm)
      clear h64
      go_wp2
      generalize w9 = wy at *
      refine wp_region_each3 (hzV (w.heap.size + 2) B13 g rx rl a31 nn c31 aa (List.length rs) cc) (fun W => (∃ x1 x2 x3 x4 x5 x6, MV W (w.heap.size + 2) x1 x2 x3 x4 x5 x6) ∧ But1 (w.heap.size + 2) wy W) (fun j A B => j = 4 ∨ A = B) hzD [39, 40, 41, 42, 9, 10] (by kernel_rfl) (by kernel_rfl) (by kernel_rfl) ⟨⟨_, _, _, _, _, _, V2.out⟩, (But1.refl _ wy).drewN 1⟩
        (fun i j oi oj v us A B hoi hoj hij hw hSA hr hv => hz_st _ _ _ _ _ _ _ _ _ _ _ hij hr hv) ?hgd
        ⟨?_, ?_, ?_, ?_, ?_, ?_, ?_, trivial⟩ ?hend
      case hgd =>
        intro i o g b hoi hog v us w hv
        have hi : i < 7 := (Array.getElem?_eq_some_iff.1 hoi).1
        have hc : i = 0 ∨ i = 1 ∨ i = 2 ∨ i = 3 ∨ i = 4 ∨ i = 5 ∨ i = 6 := by omega
        rcases hc with rfl | rfl | rfl | rfl | rfl | rfl | rfl
        · cases hoi; cases hog
        · cases hoi; cases hog
        · cases hoi; cases hog
        · cases hoi; cases hog
        · cases hoi; cases hog
        · cases hoi; cases hog
        · cases hoi; cases hog
      case refine_1 =>
        intro a' w9 hS h0 hd
        have e13 : a'.tmps[13]?.getD undef = .pointer (some ⟨B13, 0, none⟩) := vev (h0 13 (by kernel_rfl))
        refine Does2.value (.pointer (some ⟨B13, 0, none⟩)) (w' := w9) ?_ ⟨rfl, hS, .inr rfl⟩
        clear hS h0 hd
        go_simp
      case refine_2 =>
        intro a' w9 hS h0 hd
        have e39 : a'.tmps[39]?.getD undef = .pointer (some ⟨B13, 0, none⟩) := vev (hd 0 List.mem_cons_self)
        obtain ⟨c0, c1, c2, c3, c4, c5, c6, f0, f1, f2, f3, f4, f5, f6⟩ := (VH.out.but hS.2 (by have := K13.out; have := HZ2.out; omega)).cells
        refine Does2.value (.agg #[.int .u32 g, .bool rx, .int .i64 rl, .slice a31 nn c31]) (w' := w9) ?_ ⟨rfl, hS, .inr rfl⟩
        clear hS h0 hd
        go_simp
      case refine_3 =>
        intro a' w9 hS h0 hd
        have e13 : a'.tmps[13]?.getD undef = .pointer (some ⟨B13, 0, none⟩) := vev (h0 13 (by kernel_rfl))
        refine Does2.value (.pointer (some ⟨B13, 6, none⟩)) (w' := w9) ?_ ⟨rfl, hS, .inr rfl⟩
        clear hS h0 hd
        go_simp
      case refine_4 =>
        intro a' w9 hS h0 hd
        have e41 : a'.tmps[41]?.getD undef = .pointer (some ⟨B13, 6, none⟩) := vev (hd 2 List.mem_cons_self)
        obtain ⟨c0, c1, c2, c3, c4, c5, c6, f0, f1, f2, f3, f4, f5, f6⟩ := (VH.out.but hS.2 (by have := K13.out; have := HZ2.out; omega)).cells
        refine Does2.value (.slice aa (List.length rs) cc) (w' := w9) ?_ ⟨rfl, hS, .inr rfl⟩
        clear hS h0 hd
        go_simp
      case refine_5 =>
        intro a' w9 hS h0 hd
        have e8 : a'.tmps[8]?.getD undef = .pointer (some ⟨w.heap.size + 2, 0, none⟩) := vev (h0 8 (by kernel_rfl))
        have e40 : a'.tmps[40]?.getD undef = .agg #[.int .u32 g, .bool rx, .int .i64 rl, .slice a31 nn c31] := vev (hd 1 List.mem_cons_self)
        obtain ⟨p1, p2, p3, p4, p5, p6, vm⟩ := hS.1
        obtain ⟨x0, x1, x2, x3, y0, y1, y2, y3⟩ := vm.cells
        have hst := vm.store g rx rl a31 nn c31
        have hbt := vm.store_but g rx rl a31 nn c31
        refine Does2.skip (w' := (((w9.setCell ⟨w.heap.size + 2, 0, none⟩ (.int .u32 g)).setCell ⟨w.heap.size + 2, 1, none⟩ (.bool rx)).setCell ⟨w.heap.size + 2, 2, none⟩ (.int .i64 rl)).setCell ⟨w.heap.size + 2, 3, none⟩ (.slice a31 nn c31)) ?_ ⟨hst, ⟨⟨_, _, _, _, _, _, hst⟩, hS.2.trans hbt⟩, .inl rfl⟩
        clear hS h0 hd vm hst hbt
        go_simp
      case refine_6 =>
        intro a' w9 hS h0 hd
        have e42 : a'.tmps[42]?.getD undef = .slice aa (List.length rs) cc := vev (hd 3 List.mem_cons_self)
        refine Does2.value (.slice aa (List.length rs) cc) (w' := w9) ?_ ⟨rfl, hS, .inr rfl⟩
        clear hS h0 hd
        go_simp
      case refine_7 =>
        intro a' w9 hS h0 hd
        refine Does2.value (.int .i64 0) (w' := w9) ?_ ⟨rfl, hS, .inr rfl⟩
        clear hS h0 hd
        go_simp
      case hend =>
        intro f2 w4 hS hv
        have v9 := hv 5 (by decide)
        replace v9 : f2 9 = .slice aa (List.length rs) cc := v9
        have v10 := hv 6 (by decide)
        replace v10 : f2 10 = .int .i64 0 := v10
        have hm := hv 4 (by decide)
        replace hm : MV w4 (w.heap.size + 2) g rx rl a31 nn c31 := hm
        simp only [putAll, Act.put, List.setIfInBounds_toArray, List.set_cons_zero, List.set_cons_succ, v9, v10]
        have HLD := Lib.hid hm.load
        have BS := Lib.hid hS.2
        clear hS hv v9 v10 hm
        go_wp2_with fail
        refine ret_v3 (p := 8) (u := 9) (v := 10) rfl rfl rfl HLD.out ?_
        rw [HRR.out, HCP.out]
        exact ⟨⟨a31, c31, aa, cc, rs, by rw [HNN.out, HER.out]; rfl, H31.out.other V2.out.noH BS.out, M31.out, (Q31.out.mv V2.out BS.out).le HBZ.out.size⟩, HBF.out.trans (BS.out.below (by omega) HBF.out.size)⟩
    · have h64' : (64 : Int) < (nn : Int) := by omega
      have HCP : Hid (capH ex left s ⟨rx, rl, rn, rq, re⟩ = ⟨ex, left, s, [], 7⟩) := Lib.hid (if_neg (by rw [HNN.out]; exact h64))
      clear h64
      obtain ⟨x0, x1, x2, x3, y0, y1, y2, y3⟩ := V1.out.cells
      obtain ⟨z0, z1, z2, z3, t0, t1, t2, t3⟩ := V2.out.cells
      go_wp2_with fail
      refine (mOwn g ex left a n c s w9 HX.out (by omega) HHF.out HF.out).mono ?_
      rintro e w5 ⟨⟨a5, c5, rfl, h5⟩, hb5⟩
      have H5 := Lib.hid h5
      have V25 := Lib.hid (V2.out.below hb5 V2.out.lt)
      have HB5 := Lib.hid (HBF.out.trans (hb5.mono HBF.out.size))
      clear h5 hb5 x0 x1 x2 x3 y0 y1 y2 y3 z0 z1 z2 z3 t0 t1 t2 t3
      obtain ⟨z0, z1, z2, z3, t0, t1, t2, t3⟩ := V25.out.cells
      go_wp2_with fail
      refine ret_v3 (p := 8) (u := 9) (v := 10) rfl rfl rfl (V25.out.store g ex left a5 s.length c5).load ?_
      have BS := V25.out.store_but g ex left a5 s.length c5
      rw [HRR.out, HCP.out]
      exact ⟨⟨a5, c5, none, 0, [], rfl, H5.out.other V25.out.noH BS, rfl, Qs.nil _ _⟩, HB5.out.trans (BS.below (by omega) HB5.out.size)⟩
set_option maxRecDepth 100000 in
set_option maxHeartbeats 16000000 in
theorem mHearIsEx (kind : Int) (kp la g : Int) (ex : Bool) (left : Int) (a : Option Addr) (n c : Nat) (s : List Hd) (b : Option Addr) (ln lc : Nat) (xs : List Int) (w : World)
    (hx : s.length = n) (hn : n ≤ 64) (hH : Hs w a s) (hf : True) (hi : Inc (ad s)) (hl : xs.length = ln) (hln : ln ≤ 3000) (hA : As w b xs) (hfl : b = none → lc = 0) (hT : (1 ≤ la ∧ la ≤ 1000000) ∧ (0 ≤ kp ∧ kp ≤ 1000000) ∧ (0 ≤ left ∧ left ≤ 1000000) ∧ (0 ≤ g ∧ g ≤ 4294967295)) (hk : kind = 2) :
    Calls Tryz.prog 14 #[.agg #[.int .i64 kp, .int .i64 la], .agg #[.int .u32 g, .bool ex, .int .i64 left, .slice a n c], .int .u8 kind, .slice b ln lc] w fun e w' => OutHe w e w' g (capH ex left s (hIsEx g kp la ex left s (mk xs))) := by
  have HX := Lib.hid hx
  have HH := Lib.hid hH
  have HF := Lib.hid hf
  have HI := Lib.hid hi
  have HL := Lib.hid hl
  have HA := Lib.hid hA
  have HFL := Lib.hid hfl
  have HT := Lib.hid hT
  clear hx hH hf hi hl hA hfl hT
  obtain ⟨w3, hw3⟩ : ∃ w3, w3 = ((w.alloc (.cells #[.int .i64 kp, .int .i64 la] 23)).alloc (.cells #[.int .u32 g, .bool ex, .int .i64 left, .slice a n c] 28)).alloc (.cells #[.int .u32 0, .bool false, .int .i64 0, .slice none 0 0] 28) := ⟨_, rfl⟩
  obtain ⟨hs3, hc, v1, v2, hB3⟩ := mk3h w kp la g ex left a n c w3 hw3
  have HS3 := Lib.hid hs3
  have HB3 := Lib.hid hB3
  have C03 := Lib.hid hc.1
  have C13 := Lib.hid hc.2
  have V13 := Lib.hid v1
  have V23 := Lib.hid v2
  clear hs3 v1 v2 hB3 hc
  go_enter Tryz.func14, Tryz.ntmps14
  go_wp2_with fail
  rw [← hw3]
  clear hw3
  refine (mDoes w3).mono ?_
  rintro e wz ⟨rfl, hmap, hb4⟩
  have V1 := Lib.hid (V13.out.below hb4 V13.out.lt)
  have V2 := Lib.hid (V23.out.below hb4 V23.out.lt)
  have C0 := Lib.hid ((hb4.cell (cell_lt C03.out)).trans C03.out)
  have C1 := Lib.hid ((hb4.cell (cell_lt C13.out)).trans C13.out)
  have HBZ := Lib.hid (HB3.out.trans (hb4.mono HB3.out.size))
  have HH4 := Lib.hid (HH.out.below HBZ.out)
  have HA4 := Lib.hid (HA.out.below HBZ.out)
  subst hk
  have hlk := vlook2 hmap
  clear hmap hb4
  go_wp2
  refine wp_region_last (hrV (.func (.func 76) #[] #[]) w.heap.size kp la g ex left a n c b ln lc s xs (hIsEx g kp la ex left s (mk xs)) wz) (fun W => Below wz.heap.size wz W) (fun _ A B => Below A.heap.size A B) hrD [24, 25, 26, 27, 28, 29, 30, 31, 13] (by kernel_rfl) (by kernel_rfl) (by kernel_rfl) (by kernel_rfl) (by kernel_rfl) (by decide) (Below.refl _ wz).drew
    (fun i j oi oj v us A B hoi hoj hij hni hw hSA hr hv => hr_st _ _ _ _ _ _ _ _ _ _ _ _ _ _ _ _ _ (fun e => hni (by subst e; rfl)) hr hv)
    ⟨?_, ?_, ?_, ?_, ?_, ?_, ?_, ?_, ?_, ?_, trivial⟩ ?hend
  case refine_1 =>
    intro a' w9 hS h0 hd
    have e11 : a'.tmps[11]?.getD undef = .func (.func 76) #[] #[] := vev (h0 11 (by kernel_rfl))
    refine Does2.value (.func (.func 76) #[] #[]) (w' := w9) ?_ ⟨rfl, fun _ => ⟨hS, Below.refl _ _⟩⟩
    clear hS h0 hd
    go_simp
  case refine_2 =>
    intro a' w9 hS h0 hd
    have e5 : a'.tmps[5]?.getD undef = .pointer (some ⟨w.heap.size + 1, 0, none⟩) := vev (h0 5 (by kernel_rfl))
    obtain ⟨x0, x1, x2, x3, y0, y1, y2, y3⟩ := (V1.out.below hS V1.out.lt).cells
    refine Does2.value (.agg #[.int .u32 g, .bool ex, .int .i64 left, .slice a n c]) (w' := w9) ?_ ⟨rfl, fun _ => ⟨hS, Below.refl _ _⟩⟩
    clear hS h0 hd
    go_simp
  case refine_3 =>
    intro a' w9 hS h0 hd
    have e25 : a'.tmps[25]?.getD undef = .agg #[.int .u32 g, .bool ex, .int .i64 left, .slice a n c] := vev (hd 1 List.mem_cons_self)
    refine Does2.call 43 #[.agg #[.int .u32 g, .bool ex, .int .i64 left, .slice a n c]] (w' := w9) ?_ ((mOwn g ex left a n c s w9 HX.out (by omega) (HH4.out.below hS) HF.out).mono ?_)
    · clear hS h0 hd
      go_simp
    · rintro e w8 ⟨⟨a8, c8, rfl, hA8⟩, hb⟩
      exact ⟨_, rfl, ⟨a8, c8, rfl, hA8⟩, fun _ => ⟨hS.trans (hb.mono hS.size), hb⟩⟩
  case refine_4 =>
    intro a' w9 hS h0 hd
    have e4 : a'.tmps[4]?.getD undef = .pointer (some ⟨w.heap.size, 0, none⟩) := vev (h0 4 (by kernel_rfl))
    have c0 := (hS.cell (cell_lt C0.out)).trans C0.out
    have c1 := (hS.cell (cell_lt C1.out)).trans C1.out
    refine Does2.value (.agg #[.int .i64 kp, .int .i64 la]) (w' := w9) ?_ ⟨rfl, fun _ => ⟨hS, Below.refl _ _⟩⟩
    clear hS h0 hd
    go_simp
  case refine_5 =>
    intro a' w9 hS h0 hd
    obtain ⟨a26, c26, e26, h26⟩ := hd 2 List.mem_cons_self
    replace e26 := vev e26
    have e27 : a'.tmps[27]?.getD undef = .agg #[.int .i64 kp, .int .i64 la] := vev (hd 3 (List.mem_cons_of_mem _ List.mem_cons_self))
    refine Does2.value (.agg #[.int .u32 g, .bool ex, .int .i64 left, .slice a26 s.length c26, .int .i64 kp, .int .i64 la, .slice none 0 0]) (w' := w9) ?_ ⟨⟨a26, c26, rfl, h26⟩, fun _ => ⟨hS, Below.refl _ _⟩⟩
    clear hS h0 hd h26
    go_simp
  case refine_6 =>
    intro a' w9 hS h0 hd
    have e3 : a'.tmps[3]?.getD undef = .slice b ln lc := vev (h0 3 (by kernel_rfl))
    refine Does2.value (.slice b ln lc) (w' := w9) ?_ ⟨rfl, fun _ => ⟨hS, Below.refl _ _⟩⟩
    clear hS h0 hd
    go_simp
  case refine_7 =>
    intro a' w9 hS h0 hd
    have e29 : a'.tmps[29]?.getD undef = .slice b ln lc := vev (hd 5 List.mem_cons_self)
    refine Does2.call 44 #[.slice b ln lc] (w' := w9) ?_ ((vMake b ln lc xs w9 HL.out (by omega) (HA4.out.below hS) HFL.out).mono ?_)
    · clear hS h0 hd
      go_simp
    · rintro e w8 ⟨⟨a8, c8, rfl, hA8, hf8⟩, hb⟩
      exact ⟨_, rfl, ⟨a8, c8, rfl, hA8⟩, fun _ => ⟨hS.trans (hb.mono hS.size), hb⟩⟩
  case refine_8 =>
    intro a' w9 hS h0 hd
    have e24 : a'.tmps[24]?.getD undef = .func (.func 76) #[] #[] := vev (hd 0 List.mem_cons_self)
    obtain ⟨a26, c26, e28, h26⟩ := hd 4 (List.mem_cons_of_mem _ List.mem_cons_self)
    replace e28 := vev e28
    obtain ⟨a30, c30, e30, h30⟩ := hd 6 (List.mem_cons_of_mem _ (List.mem_cons_of_mem _ List.mem_cons_self))
    replace e30 := vev e30
    refine Does2.call 76 #[.agg #[.int .u32 g, .bool ex, .int .i64 left, .slice a26 s.length c26, .int .i64 kp, .int .i64 la, .slice none 0 0], .slice a30 (mk xs).length c30] (w' := w9) ?_ ((mIsEx g ex left a26 _ c26 kp la s a30 _ c30 (mk xs) w9 rfl (by rw [HX.out]; omega) h26 HI.out rfl (Nat.le_trans (mk_len xs) (by rw [HL.out]; omega)) h30 (mk_inc xs) HT.out).mono ?_)
    · clear hS h0 hd
      go_simp
    · rintro e w8 ⟨⟨a8, c8, aa8, cc8, rs8, rfl, hA8, hm8, hq8⟩, hb⟩
      exact ⟨_, rfl, ⟨a8, c8, aa8, cc8, rs8, rfl, hA8, hm8, hq8.le hS.size⟩, fun _ => ⟨hS.trans (hb.mono hS.size), hb⟩⟩
  case refine_9 =>
    intro a' w9 hS h0 hd
    refine Does2.value (.pointer (some ⟨w9.heap.size, 0, none⟩)) (w' := w9.alloc (.cells #[.int .u32 0, .bool false, .int .i64 0, .slice none 0 0, .int .i64 0, .int .i64 0, .slice none 0 0] 95)) ?_ ⟨⟨w9.heap.size, rfl, HV.new w9 0 false 0 none 0 0 0 0 none 0 0, hS.size⟩, fun _ => ⟨hS.alloc hS.size _, bel1 w9 _⟩⟩
    clear hS h0 hd
    go_simp
  case refine_10 =>
    intro a' w9 hS h0 hd
    obtain ⟨B13, e13, v13, k13⟩ := hd 8 List.mem_cons_self
    replace e13 := vev e13
    obtain ⟨a31, c31, aa, cc, rs, e31, h31, m31, q31⟩ := hd 7 (List.mem_cons_of_mem _ List.mem_cons_self)
    replace e31 := vev e31
    obtain ⟨d0, d1, d2, d3, d4, d5, d6, e0, e1, e2, e3, e4, e5, e6⟩ := v13.cells
    have hst := v13.store g (hIsEx g kp la ex left s (mk xs)).ex (hIsEx g kp la ex left s (mk xs)).left a31 (hIsEx g kp la ex left s (mk xs)).s.length c31 kp la aa (List.length rs) cc
    have hbt := v13.store_but g (hIsEx g kp la ex left s (mk xs)).ex (hIsEx g kp la ex left s (mk xs)).left a31 (hIsEx g kp la ex left s (mk xs)).s.length c31 kp la aa (List.length rs) cc
    have hfr := h31.other v13.noH hbt
    have hqr := q31.hv v13 hbt
    have q13 : a'.eval (.tmp 13) = .pointer (some ⟨B13, 0, none⟩) := by simp [Act.eval, e13]
    refine Does2.skip (w' := (((((((w9.setCell ⟨B13, 0, none⟩ (.int .u32 g)).setCell ⟨B13, 1, none⟩ (.bool (hIsEx g kp la ex left s (mk xs)).ex)).setCell ⟨B13, 2, none⟩ (.int .i64 (hIsEx g kp la ex left s (mk xs)).left)).setCell ⟨B13, 3, none⟩ (.slice a31 (hIsEx g kp la ex left s (mk xs)).s.length c31)).setCell ⟨B13, 4, none⟩ (.int .i64 kp)).setCell ⟨B13, 5, none⟩ (.int .i64 la)).setCell ⟨B13, 6, none⟩ (.slice aa (List.length rs) cc))) ?_ ⟨⟨B13, a'.eval (.tmp 31), a31, c31, aa, cc, rs, ?_, hst, hfr, m31, hqr, k13, w9, hS, hbt⟩, fun h => absurd rfl h⟩
    · clear hS h0 hd h31 hst hbt v13 m31 q31 hfr hqr q13
      go_simp
    · show [a'.eval (.tmp 13), a'.eval (.tmp 31)] = _
      rw [q13]
  case hend =>
    intro f w9 hv
    obtain ⟨B13, u2, a31, c31, aa, cc, rs, hu, hst, h31, m31, q31, k13, W, hbW, hbt⟩ := hv
    replace hu : [f 13, f 31] = [.pointer (some ⟨B13, 0, none⟩), u2] := hu
    simp only [List.cons.injEq, and_true] at hu
    obtain ⟨v13, -⟩ := hu
    simp only [putAll, Act.put, List.setIfInBounds_toArray, List.set_cons_zero, List.set_cons_succ, v13]
    have H31 := Lib.hid h31
    have M31 := Lib.hid m31
    have Q31 := Lib.hid q31
    have K13 := Lib.hid k13
    have VH := Lib.hid hst
    have HZ2 : Hid (w.heap.size + 3 ≤ wz.heap.size) := Lib.hid (by have := V2.out.lt; omega)
    have V1f := Lib.hid ((V1.out.below hbW V1.out.lt).but hbt (by have := V1.out.lt; omega))
    have V2f := Lib.hid ((V2.out.below hbW V2.out.lt).but hbt (by have := V2.out.lt; omega))
    have HBF := Lib.hid (HBZ.out.trans ((hbW.mono HBZ.out.size).trans (hbt.below (Nat.le_trans HBZ.out.size k13) (Nat.le_trans HBZ.out.size hbW.size))))
    clear hst h31 m31 q31 hbW hbt v13 k13 V1 V2
    have V1 := V1f
    have V2 := V2f
    clear V1f V2f
    have HHF := Lib.hid (HH.out.below HBF.out)
    obtain ⟨c0, c1, c2, c3, c4, c5, c6, f0, f1, f2, f3, f4, f5, f6⟩ := VH.out.cells
    obtain ⟨rr, hrr⟩ : ∃ rr, (hIsEx g kp la ex left s (mk xs)) = rr := ⟨_, rfl⟩
    rw [hrr] at H31 M31 VH c1 c2 c3
    have HRR := Lib.hid hrr
    clear hrr
    obtain ⟨rx, rl, rn, rq, re⟩ := rr
    simp only at H31 M31 VH c1 c2 c3
    obtain ⟨nn, hnn⟩ : ∃ nn, rn.length = nn := ⟨_, rfl⟩
    rw [hnn] at VH c3
    have HNN := Lib.hid hnn
    clear hnn
    by_cases h64 : nn ≤ 64
    · have h64' : (nn : Int) ≤ 64 := by omega
      have HCP : Hid (capH ex left s ⟨rx, rl, rn, rq, re⟩ = ⟨rx, rl, rn, rq, re⟩) := Lib.hid (if_pos (by rw [HNN.out]; exact h64))
      have HER : Hid (re = 0) := Lib.hid (by have := congrArg Hr.er HRR.out; exact this.symm)
      clear h64
      go_wp2
      generalize w9 = wy at *
      refine wp_region_each3 (hzV (w.heap.size + 2) B13 g rx rl a31 nn c31 aa (List.length rs) cc) (fun W => (∃ x1 x2 x3 x4 x5 x6, MV W (w.heap.size + 2) x1 x2 x3 x4 x5 x6) ∧ But1 (w.heap.size + 2) wy W) (fun j A B => j = 4 ∨ A = B) hzD [39, 40, 41, 42, 9, 10] (by kernel_rfl) (by kernel_rfl) (by kernel_rfl) ⟨⟨_, _, _, _, _, _, V2.out⟩, (But1.refl _ wy).drewN 1⟩
        (fun i j oi oj v us A B hoi hoj hij hw hSA hr hv => hz_st _ _ _ _ _ _ _ _ _ _ _ hij hr hv) ?hgd
        ⟨?_, ?_, ?_, ?_, ?_, ?_, ?_, trivial⟩ ?hend
      case hgd =>
        intro i o g b hoi hog v us w hv
        have hi : i < 7 := (Array.getElem?_eq_some_iff.1 hoi).1
        have hc : i = 0 ∨ i = 1 ∨ i = 2 ∨ i = 3 ∨ i = 4 ∨ i = 5 ∨ i = 6 := by omega
        rcases hc with rfl | rfl | rfl | rfl | rfl | rfl | rfl
        · cases hoi; cases hog
        · cases hoi; cases hog
        · cases hoi; cases hog
        · cases hoi; cases hog
        · cases hoi; cases hog
        · cases hoi; cases hog
        · cases hoi; cases hog
      case refine_1 =>
        intro a' w9 hS h0 hd
        have e13 : a'.tmps[13]?.getD undef = .pointer (some ⟨B13, 0, none⟩) := vev (h0 13 (by kernel_rfl))
        refine Does2.value (.pointer (some ⟨B13, 0, none⟩)) (w' := w9) ?_ ⟨rfl, hS, .inr rfl⟩
        clear hS h0 hd
        go_simp
      case refine_2 =>
        intro a' w9 hS h0 hd
        have e39 : a'.tmps[39]?.getD undef = .pointer (some ⟨B13, 0, none⟩) := vev (hd 0 List.mem_cons_self)
        obtain ⟨c0, c1, c2, c3, c4, c5, c6, f0, f1, f2, f3, f4, f5, f6⟩ := (VH.out.but hS.2 (by have := K13.out; have := HZ2.out; omega)).cells
        refine Does2.value (.agg #[.int .u32 g, .bool rx, .int .i64 rl, .slice a31 nn c31]) (w' := w9) ?_ ⟨rfl, hS, .inr rfl⟩
        clear hS h0 hd
        go_simp
      case refine_3 =>
        intro a' w9 hS h0 hd
        have e13 : a'.tmps[13]?.getD undef = .pointer (some ⟨B13, 0, none⟩) := vev (h0 13 (by kernel_rfl))
        refine Does2.value (.pointer (some ⟨B13, 6, none⟩)) (w' := w9) ?_ ⟨rfl, hS, .inr rfl⟩
        clear hS h0 hd
        go_simp
      case refine_4 =>
        intro a' w9 hS h0 hd
        have e41 : a'.tmps[41]?.getD undef = .pointer (some ⟨B13, 6, none⟩) := vev (hd 2 List.mem_cons_self)
        obtain ⟨c0, c1, c2, c3, c4, c5, c6, f0, f1, f2, f3, f4, f5, f6⟩ := (VH.out.but hS.2 (by have := K13.out; have := HZ2.out; omega)).cells
        refine Does2.value (.slice aa (List.length rs) cc) (w' := w9) ?_ ⟨rfl, hS, .inr rfl⟩
        clear hS h0 hd
        go_simp
      case refine_5 =>
        intro a' w9 hS h0 hd
        have e8 : a'.tmps[8]?.getD undef = .pointer (some ⟨w.heap.size + 2, 0, none⟩) := vev (h0 8 (by kernel_rfl))
        have e40 : a'.tmps[40]?.getD undef = .agg #[.int .u32 g, .bool rx, .int .i64 rl, .slice a31 nn c31] := vev (hd 1 List.mem_cons_self)
        obtain ⟨p1, p2, p3, p4, p5, p6, vm⟩ := hS.1
        obtain ⟨x0, x1, x2, x3, y0, y1, y2, y3⟩ := vm.cells
        have hst := vm.store g rx rl a31 nn c31
        have hbt := vm.store_but g rx rl a31 nn c31
        refine Does2.skip (w' := (((w9.setCell ⟨w.heap.size + 2, 0, none⟩ (.int .u32 g)).setCell ⟨w.heap.size + 2, 1, none⟩ (.bool rx)).setCell ⟨w.heap.size + 2, 2, none⟩ (.int .i64 rl)).setCell ⟨w.heap.size + 2, 3, none⟩ (.slice a31 nn c31)) ?_ ⟨hst, ⟨⟨_, _, _, _, _, _, hst⟩, hS.2.trans hbt⟩, .inl rfl⟩
        clear hS h0 hd vm hst hbt
        go_simp
      case refine_6 =>
        intro a' w9 hS h0 hd
        have e42 : a'.tmps[42]?.getD undef = .slice aa (List.length rs) cc := vev (hd 3 List.mem_cons_self)
        refine Does2.value (.slice aa (List.length rs) cc) (w' := w9) ?_ ⟨rfl, hS, .inr rfl⟩
        clear hS h0 hd
        go_simp
      case refine_7 =>
        intro a' w9 hS h0 hd
        refine Does2.value (.int .i64 0) (w' := w9) ?_ ⟨rfl, hS, .inr rfl⟩
        clear hS h0 hd
        go_simp
      case hend =>
        intro f2 w4 hS hv
        have v9 := hv 5 (by decide)
        replace v9 : f2 9 = .slice aa (List.length rs) cc := v9
        have v10 := hv 6 (by decide)
        replace v10 : f2 10 = .int .i64 0 := v10
        have hm := hv 4 (by decide)
        replace hm : MV w4 (w.heap.size + 2) g rx rl a31 nn c31 := hm
        simp only [putAll, Act.put, List.setIfInBounds_toArray, List.set_cons_zero, List.set_cons_succ, v9, v10]
        have HLD := Lib.hid hm.load
        have BS := Lib.hid hS.2
        clear hS hv v9 v10 hm
        go_wp2_with fail
        refine ret_v3 (p := 8) (u := 9) (v := 10) rfl rfl rfl HLD.out ?_
        rw [HRR.out, HCP.out]
        exact ⟨⟨a31, c31, aa, cc, rs, by rw [HNN.out, HER.out]; rfl, H31.out.other V2.out.noH BS.out, M31.out, (Q31.out.mv V2.out BS.out).le HBZ.out.size⟩, HBF.out.trans (BS.out.below (by omega) HBF.out.size)⟩
    · have h64' : (64 : Int) < (nn : Int) := by omega
      have HCP : Hid (capH ex left s ⟨rx, rl, rn, rq, re⟩ = ⟨ex, left, s, [], 7⟩) := Lib.hid (if_neg (by rw [HNN.out]; exact h64))
      clear h64
      obtain ⟨x0, x1, x2, x3, y0, y1, y2, y3⟩ := V1.out.cells
      obtain ⟨z0, z1, z2, z3, t0, t1, t2, t3⟩ := V2.out.cells
      go_wp2_with fail
      refine (mOwn g ex left a n c s w9 HX.out (by omega) HHF.out HF.out).mono ?_
      rintro e w5 ⟨⟨a5, c5, rfl, h5⟩, hb5⟩
      have H5 := Lib.hid h5
      have V25 := Lib.hid (V2.out.below hb5 V2.out.lt)
      have HB5 := Lib.hid (HBF.out.trans (hb5.mono HBF.out.size))
      clear h5 hb5 x0 x1 x2 x3 y0 y1 y2 y3 z0 z1 z2 z3 t0 t1 t2 t3
      obtain ⟨z0, z1, z2, z3, t0, t1, t2, t3⟩ := V25.out.cells
      go_wp2_with fail
      refine ret_v3 (p := 8) (u := 9) (v := 10) rfl rfl rfl (V25.out.store g ex left a5 s.length c5).load ?_
      have BS := V25.out.store_but g ex left a5 s.length c5
      rw [HRR.out, HCP.out]
      exact ⟨⟨a5, c5, none, 0, [], rfl, H5.out.other V25.out.noH BS, rfl, Qs.nil _ _⟩, HB5.out.trans (BS.below (by omega) HB5.out.size)⟩
set_option maxRecDepth 100000 in
set_option maxHeartbeats 16000000 in
theorem mHearToIn (kind : Int) (kp la g : Int) (ex : Bool) (left : Int) (a : Option Addr) (n c : Nat) (s : List Hd) (b : Option Addr) (ln lc : Nat) (xs : List Int) (w : World)
    (hx : s.length = n) (hn : n ≤ 64) (hH : Hs w a s) (hf : True) (hi : Inc (ad s)) (hl : xs.length = ln) (hln : ln ≤ 3000) (hA : As w b xs) (hfl : b = none → lc = 0) (hT : (1 ≤ la ∧ la ≤ 1000000) ∧ (0 ≤ kp ∧ kp ≤ 1000000) ∧ (0 ≤ left ∧ left ≤ 1000000) ∧ (0 ≤ g ∧ g ≤ 4294967295)) (hk : kind = 3) :
    Calls Tryz.prog 14 #[.agg #[.int .i64 kp, .int .i64 la], .agg #[.int .u32 g, .bool ex, .int .i64 left, .slice a n c], .int .u8 kind, .slice b ln lc] w fun e w' => OutHe w e w' g (capH ex left s (hToIn g kp la ex left s (mk xs))) := by
  have HX := Lib.hid hx
  have HH := Lib.hid hH
  have HF := Lib.hid hf
  have HI := Lib.hid hi
  have HL := Lib.hid hl
  have HA := Lib.hid hA
  have HFL := Lib.hid hfl
  have HT := Lib.hid hT
  clear hx hH hf hi hl hA hfl hT
  obtain ⟨w3, hw3⟩ : ∃ w3, w3 = ((w.alloc (.cells #[.int .i64 kp, .int .i64 la] 23)).alloc (.cells #[.int .u32 g, .bool ex, .int .i64 left, .slice a n c] 28)).alloc (.cells #[.int .u32 0, .bool false, .int .i64 0, .slice none 0 0] 28) := ⟨_, rfl⟩
  obtain ⟨hs3, hc, v1, v2, hB3⟩ := mk3h w kp la g ex left a n c w3 hw3
  have HS3 := Lib.hid hs3
  have HB3 := Lib.hid hB3
  have C03 := Lib.hid hc.1
  have C13 := Lib.hid hc.2
  have V13 := Lib.hid v1
  have V23 := Lib.hid v2
  clear hs3 v1 v2 hB3 hc
  go_enter Tryz.func14, Tryz.ntmps14
  go_wp2_with fail
  rw [← hw3]
  clear hw3
  refine (mDoes w3).mono ?_
  rintro e wz ⟨rfl, hmap, hb4⟩
  have V1 := Lib.hid (V13.out.below hb4 V13.out.lt)
  have V2 := Lib.hid (V23.out.below hb4 V23.out.lt)
  have C0 := Lib.hid ((hb4.cell (cell_lt C03.out)).trans C03.out)
  have C1 := Lib.hid ((hb4.cell (cell_lt C13.out)).trans C13.out)
  have HBZ := Lib.hid (HB3.out.trans (hb4.mono HB3.out.size))
  have HH4 := Lib.hid (HH.out.below HBZ.out)
  have HA4 := Lib.hid (HA.out.below HBZ.out)
  subst hk
  have hlk := vlook3 hmap
  clear hmap hb4
  go_wp2
  refine wp_region_last (hrV (.func (.func 77) #[] #[]) w.heap.size kp la g ex left a n c b ln lc s xs (hToIn g kp la ex left s (mk xs)) wz) (fun W => Below wz.heap.size wz W) (fun _ A B => Below A.heap.size A B) hrD [24, 25, 26, 27, 28, 29, 30, 31, 13] (by kernel_rfl) (by kernel_rfl) (by kernel_rfl) (by kernel_rfl) (by kernel_rfl) (by decide) (Below.refl _ wz).drew
    (fun i j oi oj v us A B hoi hoj hij hni hw hSA hr hv => hr_st _ _ _ _ _ _ _ _ _ _ _ _ _ _ _ _ _ (fun e => hni (by subst e; rfl)) hr hv)
    ⟨?_, ?_, ?_, ?_, ?_, ?_, ?_, ?_, ?_, ?_, trivial⟩ ?hend
  case refine_1 =>
    intro a' w9 hS h0 hd
    have e11 : a'.tmps[11]?.getD undef = .func (.func 77) #[] #[] := vev (h0 11 (by kernel_rfl))
    refine Does2.value (.func (.func 77) #[] #[]) (w' := w9) ?_ ⟨rfl, fun _ => ⟨hS, Below.refl _ _⟩⟩
    clear hS h0 hd
    go_simp
  case refine_2 =>
    intro a' w9 hS h0 hd
    have e5 : a'.tmps[5]?.getD undef = .pointer (some ⟨w.heap.size + 1, 0, none⟩) := vev (h0 5 (by kernel_rfl))
    obtain ⟨x0, x1, x2, x3, y0, y1, y2, y3⟩ := (V1.out.below hS V1.out.lt).cells
    refine Does2.value (.agg #[.int .u32 g, .bool ex, .int .i64 left, .slice a n c]) (w' := w9) ?_ ⟨rfl, fun _ => ⟨hS, Below.refl _ _⟩⟩
    clear hS h0 hd
    go_simp
  case refine_3 =>
    intro a' w9 hS h0 hd
    have e25 : a'.tmps[25]?.getD undef = .agg #[.int .u32 g, .bool ex, .int .i64 left, .slice a n c] := vev (hd 1 List.mem_cons_self)
    refine Does2.call 43 #[.agg #[.int .u32 g, .bool ex, .int .i64 left, .slice a n c]] (w' := w9) ?_ ((mOwn g ex left a n c s w9 HX.out (by omega) (HH4.out.below hS) HF.out).mono ?_)
    · clear hS h0 hd
      go_simp
    · rintro e w8 ⟨⟨a8, c8, rfl, hA8⟩, hb⟩
      exact ⟨_, rfl, ⟨a8, c8, rfl, hA8⟩, fun _ => ⟨hS.trans (hb.mono hS.size), hb⟩⟩
  case refine_4 =>
    intro a' w9 hS h0 hd
    have e4 : a'.tmps[4]?.getD undef = .pointer (some ⟨w.heap.size, 0, none⟩) := vev (h0 4 (by kernel_rfl))
    have c0 := (hS.cell (cell_lt C0.out)).trans C0.out
    have c1 := (hS.cell (cell_lt C1.out)).trans C1.out
    refine Does2.value (.agg #[.int .i64 kp, .int .i64 la]) (w' := w9) ?_ ⟨rfl, fun _ => ⟨hS, Below.refl _ _⟩⟩
    clear hS h0 hd
    go_simp
  case refine_5 =>
    intro a' w9 hS h0 hd
    obtain ⟨a26, c26, e26, h26⟩ := hd 2 List.mem_cons_self
    replace e26 := vev e26
    have e27 : a'.tmps[27]?.getD undef = .agg #[.int .i64 kp, .int .i64 la] := vev (hd 3 (List.mem_cons_of_mem _ List.mem_cons_self))
    refine Does2.value (.agg #[.int .u32 g, .bool ex, .int .i64 left, .slice a26 s.length c26, .int .i64 kp, .int .i64 la, .slice none 0 0]) (w' := w9) ?_ ⟨⟨a26, c26, rfl, h26⟩, fun _ => ⟨hS, Below.refl _ _⟩⟩
    clear hS h0 hd h26
    go_simp
  case refine_6 =>
    intro a' w9 hS h0 hd
    have e3 : a'.tmps[3]?.getD undef = .slice b ln lc := vev (h0 3 (by kernel_rfl))
    refine Does2.value (.slice b ln lc) (w' := w9) ?_ ⟨rfl, fun _ => ⟨hS, Below.refl _ _⟩⟩
    clear hS h0 hd
    go_simp
  case refine_7 =>
    intro a' w9 hS h0 hd
    have e29 : a'.tmps[29]?.getD undef = .slice b ln lc := vev (hd 5 List.mem_cons_self)
    refine Does2.call 44 #[.slice b ln lc] (w' := w9) ?_ ((vMake b ln lc xs w9 HL.out (by omega) (HA4.out.below hS) HFL.out).mono ?_)
    · clear hS h0 hd
      go_simp
    · rintro e w8 ⟨⟨a8, c8, rfl, hA8, hf8⟩, hb⟩
      exact ⟨_, rfl, ⟨a8, c8, rfl, hA8⟩, fun _ => ⟨hS.trans (hb.mono hS.size), hb⟩⟩
  case refine_8 =>
    intro a' w9 hS h0 hd
    have e24 : a'.tmps[24]?.getD undef = .func (.func 77) #[] #[] := vev (hd 0 List.mem_cons_self)
    obtain ⟨a26, c26, e28, h26⟩ := hd 4 (List.mem_cons_of_mem _ List.mem_cons_self)
    replace e28 := vev e28
    obtain ⟨a30, c30, e30, h30⟩ := hd 6 (List.mem_cons_of_mem _ (List.mem_cons_of_mem _ List.mem_cons_self))
    replace e30 := vev e30
    refine Does2.call 77 #[.agg #[.int .u32 g, .bool ex, .int .i64 left, .slice a26 s.length c26, .int .i64 kp, .int .i64 la, .slice none 0 0], .slice a30 (mk xs).length c30] (w' := w9) ?_ ((mToIn g ex left a26 _ c26 kp la s a30 _ c30 (mk xs) w9 rfl (by rw [HX.out]; omega) h26 HI.out rfl (Nat.le_trans (mk_len xs) (by rw [HL.out]; omega)) h30 (mk_inc xs) HT.out).mono ?_)
    · clear hS h0 hd
      go_simp
    · rintro e w8 ⟨⟨a8, c8, aa8, cc8, rs8, rfl, hA8, hm8, hq8⟩, hb⟩
      exact ⟨_, rfl, ⟨a8, c8, aa8, cc8, rs8, rfl, hA8, hm8, hq8.le hS.size⟩, fun _ => ⟨hS.trans (hb.mono hS.size), hb⟩⟩
  case refine_9 =>
    intro a' w9 hS h0 hd
    refine Does2.value (.pointer (some ⟨w9.heap.size, 0, none⟩)) (w' := w9.alloc (.cells #[.int .u32 0, .bool false, .int .i64 0, .slice none 0 0, .int .i64 0, .int .i64 0, .slice none 0 0] 95)) ?_ ⟨⟨w9.heap.size, rfl, HV.new w9 0 false 0 none 0 0 0 0 none 0 0, hS.size⟩, fun _ => ⟨hS.alloc hS.size _, bel1 w9 _⟩⟩
    clear hS h0 hd
    go_simp
  case refine_10 =>
    intro a' w9 hS h0 hd
    obtain ⟨B13, e13, v13, k13⟩ := hd 8 List.mem_cons_self
    replace e13 := vev e13
    obtain ⟨a31, c31, aa, cc, rs, e31, h31, m31, q31⟩ := hd 7 (List.mem_cons_of_mem _ List.mem_cons_self)
    replace e31 := vev e31
    obtain ⟨d0, d1, d2, d3, d4, d5, d6, e0, e1, e2, e3, e4, e5, e6⟩ := v13.cells
    have hst := v13.store g (hToIn g kp la ex left s (mk xs)).ex (hToIn g kp la ex left s (mk xs)).left a31 (hToIn g kp la ex left s (mk xs)).s.length c31 kp la aa (List.length rs) cc
    have hbt := v13.store_but g (hToIn g kp la ex left s (mk xs)).ex (hToIn g kp la ex left s (mk xs)).left a31 (hToIn g kp la ex left s (mk xs)).s.length c31 kp la aa (List.length rs) cc
    have hfr := h31.other v13.noH hbt
    have hqr := q31.hv v13 hbt
    have q13 : a'.eval (.tmp 13) = .pointer (some ⟨B13, 0, none⟩) := by simp [Act.eval, e13]
    refine Does2.skip (w' := (((((((w9.setCell ⟨B13, 0, none⟩ (.int .u32 g)).setCell ⟨B13, 1, none⟩ (.bool (hToIn g kp la ex left s (mk xs)).ex)).setCell ⟨B13, 2, none⟩ (.int .i64 (hToIn g kp la ex left s (mk xs)).left)).setCell ⟨B13, 3, none⟩ (.slice a31 (hToIn g kp la ex left s (mk xs)).s.length c31)).setCell ⟨B13, 4, none⟩ (.int .i64 kp)).setCell ⟨B13, 5, none⟩ (.int .i64 la)).setCell ⟨B13, 6, none⟩ (.slice aa (List.length rs) cc))) ?_ ⟨⟨B13, a'.eval (.tmp 31), a31, c31, aa, cc, rs, ?_, hst, hfr, m31, hqr, k13, w9, hS, hbt⟩, fun h => absurd rfl h⟩
    · clear hS h0 hd h31 hst hbt v13 m31 q31 hfr hqr q13
      go_simp
    · show [a'.eval (.tmp 13), a'.eval (.tmp 31)] = _
      rw [q13]
  case hend =>
    intro f w9 hv
    obtain ⟨B13, u2, a31, c31, aa, cc, rs, hu, hst, h31, m31, q31, k13, W, hbW, hbt⟩ := hv
    replace hu : [f 13, f 31] = [.pointer (some ⟨B13, 0, none⟩), u2] := hu
    simp only [List.cons.injEq, and_true] at hu
    obtain ⟨v13, -⟩ := hu
    simp only [putAll, Act.put, List.setIfInBounds_toArray, List.set_cons_zero, List.set_cons_succ, v13]
    have H31 := Lib.hid h31
    have M31 := Lib.hid m31
    have Q31 := Lib.hid q31
    have K13 := Lib.hid k13
    have VH := Lib.hid hst
    have HZ2 : Hid (w.heap.size + 3 ≤ wz.heap.size) := Lib.hid (by have := V2.out.lt; omega)
    have V1f := Lib.hid ((V1.out.below hbW V1.out.lt).but hbt (by have := V1.out.lt; omega))
    have V2f := Lib.hid ((V2.out.below hbW V2.out.lt).but hbt (by have := V2.out.lt; omega))
    have HBF := Lib.hid (HBZ.out.trans ((hbW.mono HBZ.out.size).trans (hbt.below (Nat.le_trans HBZ.out.size k13) (Nat.le_trans HBZ.out.size hbW.size))))
    clear hst h31 m31 q31 hbW hbt v13 k13 V1 V2
    have V1 := V1f
    have V2 := V2f
    clear V1f V2f
    have HHF := Lib.hid (HH.out.below HBF.out)
    obtain ⟨c0, c1, c2, c3, c4, c5, c6, f0, f1, f2, f3, f4, f5, f6⟩ := VH.out.cells
    obtain ⟨rr, hrr⟩ : ∃ rr, (hToIn g kp la ex left s (mk xs)) = rr := ⟨_, rfl⟩
    rw [hrr] at H31 M31 VH c1 c2 c3
    have HRR := Lib.hid hrr
    clear hrr
    obtain ⟨rx, rl, rn, rq, re⟩ := rr
    simp only at H31 M31 VH c1 c2 c3
    obtain ⟨nn, hnn⟩ : ∃ nn, rn.length = nn := ⟨_, rfl⟩
    rw [hnn] at VH c3
    have HNN := Lib.hid hnn
    clear hnn
    by_cases h64 : nn ≤ 64
    · have h64' : (nn : Int) ≤ 64 := by omega
      have HCP : Hid (capH ex left s ⟨rx, rl, rn, rq, re⟩ = ⟨rx, rl, rn, rq, re⟩) := Lib.hid (if_pos (by rw [HNN.out]; exact h64))
      have HER : Hid (re = 0) := Lib.hid (by have := congrArg Hr.er HRR.out; exact this.symm)
      clear h64
      go_wp2
      generalize w9 = wy at *
      refine wp_region_each3 (hzV (w.heap.size + 2) B13 g rx rl a31 nn c31 aa (List.length rs) cc) (fun W => (∃ x1 x2 x3 x4 x5 x6, MV W (w.heap.size + 2) x1 x2 x3 x4 x5 x6) ∧ But1 (w.heap.size + 2) wy W) (fun j A B => j = 4 ∨ A = B) hzD [39, 40, 41, 42, 9, 10] (by kernel_rfl) (by kernel_rfl) (by kernel_rfl) ⟨⟨_, _, _, _, _, _, V2.out⟩, (But1.refl _ wy).drewN 1⟩
        (fun i j oi oj v us A B hoi hoj hij hw hSA hr hv => hz_st _ _ _ _ _ _ _ _ _ _ _ hij hr hv) ?hgd
        ⟨?_, ?_, ?_, ?_, ?_, ?_, ?_, trivial⟩ ?hend
      case hgd =>
        intro i o g b hoi hog v us w hv
        have hi : i < 7 := (Array.getElem?_eq_some_iff.1 hoi).1
        have hc : i = 0 ∨ i = 1 ∨ i = 2 ∨ i = 3 ∨ i = 4 ∨ i = 5 ∨ i = 6 := by omega
        rcases hc with rfl | rfl | rfl | rfl | rfl | rfl | rfl
        · cases hoi; cases hog
        · cases hoi; cases hog
        · cases hoi; cases hog
        · cases hoi; cases hog
        · cases hoi; cases hog
        · cases hoi; cases hog
        · cases hoi; cases hog
      case refine_1 =>
        intro a' w9 hS h0 hd
        have e13 : a'.tmps[13]?.getD undef = .pointer (some ⟨B13, 0, none⟩) := vev (h0 13 (by kernel_rfl))
        refine Does2.value (.pointer (some ⟨B13, 0, none⟩)) (w' := w9) ?_ ⟨rfl, hS, .inr rfl⟩
        clear hS h0 hd
        go_simp
      case refine_2 =>
        intro a' w9 hS h0 hd
        have e39 : a'.tmps[39]?.getD undef = .pointer (some ⟨B13, 0, none⟩) := vev (hd 0 List.mem_cons_self)
        obtain ⟨c0, c1, c2, c3, c4, c5, c6, f0, f1, f2, f3, f4, f5, f6⟩ := (VH.out.but hS.2 (by have := K13.out; have := HZ2.out; omega)).cells
        refine Does2.value (.agg #[.int .u32 g, .bool rx, .int .i64 rl, .slice a31 nn c31]) (w' := w9) ?_ ⟨rfl, hS, .inr rfl⟩
        clear hS h0 hd
        go_simp
      case refine_3 =>
        intro a' w9 hS h0 hd
        have e13 : a'.tmps[13]?.getD undef = .pointer (some ⟨B13, 0, none⟩) := vev (h0 13 (by kernel_rfl))
        refine Does2.value (.pointer (some ⟨B13, 6, none⟩)) (w' := w9) ?_ ⟨rfl, hS, .inr rfl⟩
        clear hS h0 hd
        go_simp
      case refine_4 =>
        intro a' w9 hS h0 hd
        have e41 : a'.tmps[41]?.getD undef = .pointer (some ⟨B13, 6, none⟩) := vev (hd 2 List.mem_cons_self)
        obtain ⟨c0, c1, c2, c3, c4, c5, c6, f0, f1, f2, f3, f4, f5, f6⟩ := (VH.out.but hS.2 (by have := K13.out; have := HZ2.out; omega)).cells
        refine Does2.value (.slice aa (List.length rs) cc) (w' := w9) ?_ ⟨rfl, hS, .inr rfl⟩
        clear hS h0 hd
        go_simp
      case refine_5 =>
        intro a' w9 hS h0 hd
        have e8 : a'.tmps[8]?.getD undef = .pointer (some ⟨w.heap.size + 2, 0, none⟩) := vev (h0 8 (by kernel_rfl))
        have e40 : a'.tmps[40]?.getD undef = .agg #[.int .u32 g, .bool rx, .int .i64 rl, .slice a31 nn c31] := vev (hd 1 List.mem_cons_self)
        obtain ⟨p1, p2, p3, p4, p5, p6, vm⟩ := hS.1
        obtain ⟨x0, x1, x2, x3, y0, y1, y2, y3⟩ := vm.cells
        have hst := vm.store g rx rl a31 nn c31
        have hbt := vm.store_but g rx rl a31 nn c31
        refine Does2.skip (w' := (((w9.setCell ⟨w.heap.size + 2, 0, none⟩ (.int .u32 g)).setCell ⟨w.heap.size + 2, 1, none⟩ (.bool rx)).setCell ⟨w.heap.size + 2, 2, none⟩ (.int .i64 rl)).setCell ⟨w.heap.size + 2, 3, none⟩ (.slice a31 nn c31)) ?_ ⟨hst, ⟨⟨_, _, _, _, _, _, hst⟩, hS.2.trans hbt⟩, .inl rfl⟩
        clear hS h0 hd vm hst hbt
        go_simp
      case refine_6 =>
        intro a' w9 hS h0 hd
        have e42 : a'.tmps[42]?.getD undef = .slice aa (List.length rs) cc := vev (hd 3 List.mem_cons_self)
        refine Does2.value (.slice aa (List.length rs) cc) (w' := w9) ?_ ⟨rfl, hS, .inr rfl⟩
        clear hS h0 hd
        go_simp
      case refine_7 =>
        intro a' w9 hS h0 hd
        refine Does2.value (.int .i64 0) (w' := w9) ?_ ⟨rfl, hS, .inr rfl⟩
        clear hS h0 hd
        go_simp
      case hend =>
        intro f2 w4 hS hv
        have v9 := hv 5 (by decide)
        replace v9 : f2 9 = .slice aa (List.length rs) cc := v9
        have v10 := hv 6 (by decide)
        replace v10 : f2 10 = .int .i64 0 := v10
        have hm := hv 4 (by decide)
        replace hm : MV w4 (w.heap.size + 2) g rx rl a31 nn c31 := hm
        simp only [putAll, Act.put, List.setIfInBounds_toArray, List.set_cons_zero, List.set_cons_succ, v9, v10]
        have HLD := Lib.hid hm.load
        have BS := Lib.hid hS.2
        clear hS hv v9 v10 hm
        go_wp2_with fail
        refine ret_v3 (p := 8) (u := 9) (v := 10) rfl rfl rfl HLD.out ?_
        rw [HRR.out, HCP.out]
        exact ⟨⟨a31, c31, aa, cc, rs, by rw [HNN.out, HER.out]; rfl, H31.out.other V2.out.noH BS.out, M31.out, (Q31.out.mv V2.out BS.out).le HBZ.out.size⟩, HBF.out.trans (BS.out.below (by omega) HBF.out.size)⟩
    · have h64' : (64 : Int) < (nn : Int) := by omega
      have HCP : Hid (capH ex left s ⟨rx, rl, rn, rq, re⟩ = ⟨ex, left, s, [], 7⟩) := Lib.hid (if_neg (by rw [HNN.out]; exact h64))
      clear h64
      obtain ⟨x0, x1, x2, x3, y0, y1, y2, y3⟩ := V1.out.cells
      obtain ⟨z0, z1, z2, z3, t0, t1, t2, t3⟩ := V2.out.cells
      go_wp2_with fail
      refine (mOwn g ex left a n c s w9 HX.out (by omega) HHF.out HF.out).mono ?_
      rintro e w5 ⟨⟨a5, c5, rfl, h5⟩, hb5⟩
      have H5 := Lib.hid h5
      have V25 := Lib.hid (V2.out.below hb5 V2.out.lt)
      have HB5 := Lib.hid (HBF.out.trans (hb5.mono HBF.out.size))
      clear h5 hb5 x0 x1 x2 x3 y0 y1 y2 y3 z0 z1 z2 z3 t0 t1 t2 t3
      obtain ⟨z0, z1, z2, z3, t0, t1, t2, t3⟩ := V25.out.cells
      go_wp2_with fail
      refine ret_v3 (p := 8) (u := 9) (v := 10) rfl rfl rfl (V25.out.store g ex left a5 s.length c5).load ?_
      have BS := V25.out.store_but g ex left a5 s.length c5
      rw [HRR.out, HCP.out]
      exact ⟨⟨a5, c5, none, 0, [], rfl, H5.out.other V25.out.noH BS, rfl, Qs.nil _ _⟩, HB5.out.trans (BS.below (by omega) HB5.out.size)⟩
set_option maxRecDepth 100000 in
set_option maxHeartbeats 16000000 in
theorem mHearToEx (kind : Int) (kp la g : Int) (ex : Bool) (left : Int) (a : Option Addr) (n c : Nat) (s : List Hd) (b : Option Addr) (ln lc : Nat) (xs : List Int) (w : World)
    (hx : s.length = n) (hn : n ≤ 64) (hH : Hs w a s) (hf : True) (hi : Inc (ad s)) (hl : xs.length = ln) (hln : ln ≤ 3000) (hA : As w b xs) (hfl : b = none → lc = 0) (hT : (1 ≤ la ∧ la ≤ 1000000) ∧ (0 ≤ kp ∧ kp ≤ 1000000) ∧ (0 ≤ left ∧ left ≤ 1000000) ∧ (0 ≤ g ∧ g ≤ 4294967295)) (hk : kind = 4) :
    Calls Tryz.prog 14 #[.agg #[.int .i64 kp, .int .i64 la], .agg #[.int .u32 g, .bool ex, .int .i64 left, .slice a n c], .int .u8 kind, .slice b ln lc] w fun e w' => OutHe w e w' g (capH ex left s (hToEx g kp la ex left s (mk xs))) := by
  have HX := Lib.hid hx
  have HH := Lib.hid hH
  have HF := Lib.hid hf
  have HI := Lib.hid hi
  have HL := Lib.hid hl
  have HA := Lib.hid hA
  have HFL := Lib.hid hfl
  have HT := Lib.hid hT
  clear hx hH hf hi hl hA hfl hT
  obtain ⟨w3, hw3⟩ : ∃ w3, w3 = ((w.alloc (.cells #[.int .i64 kp, .int .i64 la] 23)).alloc (.cells #[.int .u32 g, .bool ex, .int .i64 left, .slice a n c] 28)).alloc (.cells #[.int .u32 0, .bool false, .int .i64 0, .slice none 0 0] 28) := ⟨_, rfl⟩
  obtain ⟨hs3, hc, v1, v2, hB3⟩ := mk3h w kp la g ex left a n c w3 hw3
  have HS3 := Lib.hid hs3
  have HB3 := Lib.hid hB3
  have C03 := Lib.hid hc.1
  have C13 := Lib.hid hc.2
  have V13 := Lib.hid v1
  have V23 := Lib.hid v2
  clear hs3 v1 v2 hB3 hc
  go_enter Tryz.func14, Tryz.ntmps14
  go_wp2_with fail
  rw [← hw3]
  clear hw3
  refine (mDoes w3).mono ?_
  rintro e wz ⟨rfl, hmap, hb4⟩
  have V1 := Lib.hid (V13.out.below hb4 V13.out.lt)
  have V2 := Lib.hid (V23.out.below hb4 V23.out.lt)
  have C0 := Lib.hid ((hb4.cell (cell_lt C03.out)).trans C03.out)
  have C1 := Lib.hid ((hb4.cell (cell_lt C13.out)).trans C13.out)
  have HBZ := Lib.hid (HB3.out.trans (hb4.mono HB3.out.size))
  have HH4 := Lib.hid (HH.out.below HBZ.out)
  have HA4 := Lib.hid (HA.out.below HBZ.out)
  subst hk
  have hlk := vlook4 hmap
  clear hmap hb4
  go_wp2
  refine wp_region_last (hrV (.func (.func 78) #[] #[]) w.heap.size kp la g ex left a n c b ln lc s xs (hToEx g kp la ex left s (mk xs)) wz) (fun W => Below wz.heap.size wz W) (fun _ A B => Below A.heap.size A B) hrD [24, 25, 26, 27, 28, 29, 30, 31, 13] (by kernel_rfl) (by kernel_rfl) (by kernel_rfl) (by kernel_rfl) (by kernel_rfl) (by decide) (Below.refl _ wz).drew
    (fun i j oi oj v us A B hoi hoj hij hni hw hSA hr hv => hr_st _ _ _ _ _ _ _ _ _ _ _ _ _ _ _ _ _ (fun e => hni (by subst e; rfl)) hr hv)
    ⟨?_, ?_, ?_, ?_, ?_, ?_, ?_, ?_, ?_, ?_, trivial⟩ ?hend
  case refine_1 =>
    intro a' w9 hS h0 hd
    have e11 : a'.tmps[11]?.getD undef = .func (.func 78) #[] #[] := vev (h0 11 (by kernel_rfl))
    refine Does2.value (.func (.func 78) #[] #[]) (w' := w9) ?_ ⟨rfl, fun _ => ⟨hS, Below.refl _ _⟩⟩
    clear hS h0 hd
    go_simp
  case refine_2 =>
    intro a' w9 hS h0 hd
    have e5 : a'.tmps[5]?.getD undef = .pointer (some ⟨w.heap.size + 1, 0, none⟩) := vev (h0 5 (by kernel_rfl))
    obtain ⟨x0, x1, x2, x3, y0, y1, y2, y3⟩ := (V1.out.below hS V1.out.lt).cells
    refine Does2.value (.agg #[.int .u32 g, .bool ex, .int .i64 left, .slice a n c]) (w' := w9) ?_ ⟨rfl, fun _ => ⟨hS, Below.refl _ _⟩⟩
    clear hS h0 hd
    go_simp
  case refine_3 =>
    intro a' w9 hS h0 hd
    have e25 : a'.tmps[25]?.getD undef = .agg #[.int .u32 g, .bool ex, .int .i64 left, .slice a n c] := vev (hd 1 List.mem_cons_self)
    refine Does2.call 43 #[.agg #[.int .u32 g, .bool ex, .int .i64 left, .slice a n c]] (w' := w9) ?_ ((mOwn g ex left a n c s w9 HX.out (by omega) (HH4.out.below hS) HF.out).mono ?_)
    · clear hS h0 hd
      go_simp
    · rintro e w8 ⟨⟨a8, c8, rfl, hA8⟩, hb⟩
      exact ⟨_, rfl, ⟨a8, c8, rfl, hA8⟩, fun _ => ⟨hS.trans (hb.mono hS.size), hb⟩⟩
  case refine_4 =>
    intro a' w9 hS h0 hd
    have e4 : a'.tmps[4]?.getD undef = .pointer (some ⟨w.heap.size, 0, none⟩) := vev (h0 4 (by kernel_rfl))
    have c0 := (hS.cell (cell_lt C0.out)).trans C0.out
    have c1 := (hS.cell (cell_lt C1.out)).trans C1.out
    refine Does2.value (.agg #[.int .i64 kp, .int .i64 la]) (w' := w9) ?_ ⟨rfl, fun _ => ⟨hS, Below.refl _ _⟩⟩
    clear hS h0 hd
    go_simp
  case refine_5 =>
    intro a' w9 hS h0 hd
    obtain ⟨a26, c26, e26, h26⟩ := hd 2 List.mem_cons_self
    replace e26 := vev e26
    have e27 : a'.tmps[27]?.getD undef = .agg #[.int .i64 kp, .int .i64 la] := vev (hd 3 (List.mem_cons_of_mem _ List.mem_cons_self))
    refine Does2.value (.agg #[.int .u32 g, .bool ex, .int .i64 left, .slice a26 s.length c26, .int .i64 kp, .int .i64 la, .slice none 0 0]) (w' := w9) ?_ ⟨⟨a26, c26, rfl, h26⟩, fun _ => ⟨hS, Below.refl _ _⟩⟩
    clear hS h0 hd h26
    go_simp
  case refine_6 =>
    intro a' w9 hS h0 hd
    have e3 : a'.tmps[3]?.getD undef = .slice b ln lc := vev (h0 3 (by kernel_rfl))
    refine Does2.value (.slice b ln lc) (w' := w9) ?_ ⟨rfl, fun _ => ⟨hS, Below.refl _ _⟩⟩
    clear hS h0 hd
    go_simp
  case refine_7 =>
    intro a' w9 hS h0 hd
    have e29 : a'.tmps[29]?.getD undef = .slice b ln lc := vev (hd 5 List.mem_cons_self)
    refine Does2.call 44 #[.slice b ln lc] (w' := w9) ?_ ((vMake b ln lc xs w9 HL.out (by omega) (HA4.out.below hS) HFL.out).mono ?_)
    · clear hS h0 hd
      go_simp
    · rintro e w8 ⟨⟨a8, c8, rfl, hA8, hf8⟩, hb⟩
      exact ⟨_, rfl, ⟨a8, c8, rfl, hA8⟩, fun _ => ⟨hS.trans (hb.mono hS.size), hb⟩⟩
  case refine_8 =>
    intro a' w9 hS h0 hd
    have e24 : a'.tmps[24]?.getD undef = .func (.func 78) #[] #[] := vev (hd 0 List.mem_cons_self)
    obtain ⟨a26, c26, e28, h26⟩ := hd 4 (List.mem_cons_of_mem _ List.mem_cons_self)
    replace e28 := vev e28
    obtain ⟨a30, c30, e30, h30⟩ := hd 6 (List.mem_cons_of_mem _ (List.mem_cons_of_mem _ List.mem_cons_self))
    replace e30 := vev e30
    refine Does2.call 78 #[.agg #[.int .u32 g, .bool ex, .int .i64 left, .slice a26 s.length c26, .int .i64 kp, .int .i64 la, .slice none 0 0], .slice a30 (mk xs).length c30] (w' := w9) ?_ ((mToEx g ex left a26 _ c26 kp la s a30 _ c30 (mk xs) w9 rfl (by rw [HX.out]; omega) h26 HI.out rfl (Nat.le_trans (mk_len xs) (by rw [HL.out]; omega)) h30 (mk_inc xs) HT.out).mono ?_)
    · clear hS h0 hd
      go_simp
    · rintro e w8 ⟨⟨a8, c8, aa8, cc8, rs8, rfl, hA8, hm8, hq8⟩, hb⟩
      exact ⟨_, rfl, ⟨a8, c8, aa8, cc8, rs8, rfl, hA8, hm8, hq8.le hS.size⟩, fun _ => ⟨hS.trans (hb.mono hS.size), hb⟩⟩
  case refine_9 =>
    intro a' w9 hS h0 hd
    refine Does2.value (.pointer (some ⟨w9.heap.size, 0, none⟩)) (w' := w9.alloc (.cells #[.int .u32 0, .bool false, .int .i64 0, .slice none 0 0, .int .i64 0, .int .i64 0, .slice none 0 0] 95)) ?_ ⟨⟨w9.heap.size, rfl, HV.new w9 0 false 0 none 0 0 0 0 none 0 0, hS.size⟩, fun _ => ⟨hS.alloc hS.size _, bel1 w9 _⟩⟩
    clear hS h0 hd
    go_simp
  case refine_10 =>
    intro a' w9 hS h0 hd
    obtain ⟨B13, e13, v13, k13⟩ := hd 8 List.mem_cons_self
    replace e13 := vev e13
    obtain ⟨a31, c31, aa, cc, rs, e31, h31, m31, q31⟩ := hd 7 (List.mem_cons_of_mem _ List.mem_cons_self)
    replace e31 := vev e31
    obtain ⟨d0, d1, d2, d3, d4, d5, d6, e0, e1, e2, e3, e4, e5, e6⟩ := v13.cells
    have hst := v13.store g (hToEx g kp la ex left s (mk xs)).ex (hToEx g kp la ex left s (mk xs)).left a31 (hToEx g kp la ex left s (mk xs)).s.length c31 kp la aa (List.length rs) cc
    have hbt := v13.store_but g (hToEx g kp la ex left s (mk xs)).ex (hToEx g kp la ex left s (mk xs)).left a31 (hToEx g kp la ex left s (mk xs)).s.length c31 kp la aa (List.length rs) cc
    have hfr := h31.other v13.noH hbt
    have hqr := q31.hv v13 hbt
    have q13 : a'.eval (.tmp 13) = .pointer (some ⟨B13, 0, none⟩) := by simp [Act.eval, e13]
    refine Does2.skip (w' := (((((((w9.setCell ⟨B13, 0, none⟩ (.int .u32 g)).setCell ⟨B13, 1, none⟩ (.bool (hToEx g kp la ex left s (mk xs)).ex)).setCell ⟨B13, 2, none⟩ (.int .i64 (hToEx g kp la ex left s (mk xs)).left)).setCell ⟨B13, 3, none⟩ (.slice a31 (hToEx g kp la ex left s (mk xs)).s.length c31)).setCell ⟨B13, 4, none⟩ (.int .i64 kp)).setCell ⟨B13, 5, none⟩ (.int .i64 la)).setCell ⟨B13, 6, none⟩ (.slice aa (List.length rs) cc))) ?_ ⟨⟨B13, a'.eval (.tmp 31), a31, c31, aa, cc, rs, ?_, hst, hfr, m31, hqr, k13, w9, hS, hbt⟩, fun h => absurd rfl h⟩
    · clear hS h0 hd h31 hst hbt v13 m31 q31 hfr hqr q13
      go_simp
    · show [a'.eval (.tmp 13), a'.eval (.tmp 31)] = _
      rw [q13]
  case hend =>
    intro f w9 hv
    obtain ⟨B13, u2, a31, c31, aa, cc, rs, hu, hst, h31, m31, q31, k13, W, hbW, hbt⟩ := hv
    replace hu : [f 13, f 31] = [.pointer (some ⟨B13, 0, none⟩), u2] := hu
    simp only [List.cons.injEq, and_true] at hu
    obtain ⟨v13, -⟩ := hu
    simp only [putAll, Act.put, List.setIfInBounds_toArray, List.set_cons_zero, List.set_cons_succ, v13]
    have H31 := Lib.hid h31
    have M31 := Lib.hid m31
    have Q31 := Lib.hid q31
    have K13 := Lib.hid k13
    have VH := Lib.hid hst
    have HZ2 : Hid (w.heap.size + 3 ≤ wz.heap.size) := Lib.hid (by have := V2.out.lt; omega)
    have V1f := Lib.hid ((V1.out.below hbW V1.out.lt).but hbt (by have := V1.out.lt; omega))
    have V2f := Lib.hid ((V2.out.below hbW V2.out.lt).but hbt (by have := V2.out.lt; omega))
    have HBF := Lib.hid (HBZ.out.trans ((hbW.mono HBZ.out.size).trans (hbt.below (Nat.le_trans HBZ.out.size k13) (Nat.le_trans HBZ.out.size hbW.size))))
    clear hst h31 m31 q31 hbW hbt v13 k13 V1 V2
    have V1 := V1f
    have V2 := V2f
    clear V1f V2f
    have HHF := Lib.hid (HH.out.below HBF.out)
    obtain ⟨c0, c1, c2, c3, c4, c5, c6, f0, f1, f2, f3, f4, f5, f6⟩ := VH.out.cells
    obtain ⟨rr, hrr⟩ : ∃ rr, (hToEx g kp la ex left s (mk xs)) = rr := ⟨_, rfl⟩
    rw [hrr] at H31 M31 VH c1 c2 c3
    have HRR := Lib.hid hrr
    clear hrr
    obtain ⟨rx, rl, rn, rq, re⟩ := rr
    simp only at H31 M31 VH c1 c2 c3
    obtain ⟨nn, hnn⟩ : ∃ nn, rn.length = nn := ⟨_, rfl⟩
    rw [hnn] at VH c3
    have HNN := Lib.hid hnn
    clear hnn
    by_cases h64 : nn ≤ 64
    · have h64' : (nn : Int) ≤ 64 := by omega
      have HCP : Hid (capH ex left s ⟨rx, rl, rn, rq, re⟩ = ⟨rx, rl, rn, rq, re⟩) := Lib.hid (if_pos (by rw [HNN.out]; exact h64))
      have HER : Hid (re = 0) := Lib.hid (by have := congrArg Hr.er HRR.out; exact this.symm)
      clear h64
      go_wp2
      generalize w9 = wy at *
      refine wp_region_each3 (hzV (w.heap.size + 2) B13 g rx rl a31 nn c31 aa (List.length rs) cc) (fun W => (∃ x1 x2 x3 x4 x5 x6, MV W (w.heap.size + 2) x1 x2 x3 x4 x5 x6) ∧ But1 (w.heap.size + 2) wy W) (fun j A B => j = 4 ∨ A = B) hzD [39, 40, 41, 42, 9, 10] (by kernel_rfl) (by kernel_rfl) (by kernel_rfl) ⟨⟨_, _, _, _, _, _, V2.out⟩, (But1.refl _ wy).drewN 1⟩
        (fun i j oi oj v us A B hoi hoj hij hw hSA hr hv => hz_st _ _ _ _ _ _ _ _ _ _ _ hij hr hv) ?hgd
        ⟨?_, ?_, ?_, ?_, ?_, ?_, ?_, trivial⟩ ?hend
      case hgd =>
        intro i o g b hoi hog v us w hv
        have hi : i < 7 := (Array.getElem?_eq_some_iff.1 hoi).1
        have hc : i = 0 ∨ i = 1 ∨ i = 2 ∨ i = 3 ∨ i = 4 ∨ i = 5 ∨ i = 6 := by omega
        rcases hc with rfl | rfl | rfl | rfl | rfl | rfl | rfl
        · cases hoi; cases hog
        · cases hoi; cases hog
        · cases hoi; cases hog
        · cases hoi; cases hog
        · cases hoi; cases hog
        · cases hoi; cases hog
        · cases hoi; cases hog
      case refine_1 =>
        intro a' w9 hS h0 hd
        have e13 : a'.tmps[13]?.getD undef = .pointer (some ⟨B13, 0, none⟩) := vev (h0 13 (by kernel_rfl))
        refine Does2.value (.pointer (some ⟨B13, 0, none⟩)) (w' := w9) ?_ ⟨rfl, hS, .inr rfl⟩
        clear hS h0 hd
        go_simp
      case refine_2 =>
        intro a' w9 hS h0 hd
        have e39 : a'.tmps[39]?.getD undef = .pointer (some ⟨B13, 0, none⟩) := vev (hd 0 List.mem_cons_self)
        obtain ⟨c0, c1, c2, c3, c4, c5, c6, f0, f1, f2, f3, f4, f5, f6⟩ := (VH.out.but hS.2 (by have := K13.out; have := HZ2.out; omega)).cells
        refine Does2.value (.agg #[.int .u32 g, .bool rx, .int .i64 rl, .slice a31 nn c31]) (w' := w9) ?_ ⟨rfl, hS, .inr rfl⟩
        clear hS h0 hd
        go_simp
      case refine_3 =>
        intro a' w9 hS h0 hd
        have e13 : a'.tmps[13]?.getD undef = .pointer (some ⟨B13, 0, none⟩) := vev (h0 13 (by kernel_rfl))
        refine Does2.value (.pointer (some ⟨B13, 6, none⟩)) (w' := w9) ?_ ⟨rfl, hS, .inr rfl⟩
        clear hS h0 hd
        go_simp
      case refine_4 =>
        intro a' w9 hS h0 hd
        have e41 : a'.tmps[41]?.getD undef = .pointer (some ⟨B13, 6, none⟩) := vev (hd 2 List.mem_cons_self)
        obtain ⟨c0, c1, c2, c3, c4, c5, c6, f0, f1, f2, f3, f4, f5, f6⟩ := (VH.out.but hS.2 (by have := K13.out; have := HZ2.out; omega)).cells
        refine Does2.value (.slice aa (List.length rs) cc) (w' := w9) ?_ ⟨rfl, hS, .inr rfl⟩
        clear hS h0 hd
        go_simp
      case refine_5 =>
        intro a' w9 hS h0 hd
        have e8 : a'.tmps[8]?.getD undef = .pointer (some ⟨w.heap.size + 2, 0, none⟩) := vev (h0 8 (by kernel_rfl))
        have e40 : a'.tmps[40]?.getD undef = .agg #[.int .u32 g, .bool rx, .int .i64 rl, .slice a31 nn c31] := vev (hd 1 List.mem_cons_self)
        obtain ⟨p1, p2, p3, p4, p5, p6, vm⟩ := hS.1
        obtain ⟨x0, x1, x2, x3, y0, y1, y2, y3⟩ := vm.cells
        have hst := vm.store g rx rl a31 nn c31
        have hbt := vm.store_but g rx rl a31 nn c31
        refine Does2.skip (w' := (((w9.setCell ⟨w.heap.size + 2, 0, none⟩ (.int .u32 g)).setCell ⟨w.heap.size + 2, 1, none⟩ (.bool rx)).setCell ⟨w.heap.size + 2, 2, none⟩ (.int .i64 rl)).setCell ⟨w.heap.size + 2, 3, none⟩ (.slice a31 nn c31)) ?_ ⟨hst, ⟨⟨_, _, _, _, _, _, hst⟩, hS.2.trans hbt⟩, .inl rfl⟩
        clear hS h0 hd vm hst hbt
        go_simp
      case refine_6 =>
        intro a' w9 hS h0 hd
        have e42 : a'.tmps[42]?.getD undef = .slice aa (List.length rs) cc := vev (hd 3 List.mem_cons_self)
        refine Does2.value (.slice aa (List.length rs) cc) (w' := w9) ?_ ⟨rfl, hS, .inr rfl⟩
        clear hS h0 hd
        go_simp
      case refine_7 =>
        intro a' w9 hS h0 hd
        refine Does2.value (.int .i64 0) (w' := w9) ?_ ⟨rfl, hS, .inr rfl⟩
        clear hS h0 hd
        go_simp
      case hend =>
        intro f2 w4 hS hv
        have v9 := hv 5 (by decide)
        replace v9 : f2 9 = .slice aa (List.length rs) cc := v9
        have v10 := hv 6 (by decide)
        replace v10 : f2 10 = .int .i64 0 := v10
        have hm := hv 4 (by decide)
        replace hm : MV w4 (w.heap.size + 2) g rx rl a31 nn c31 := hm
        simp only [putAll, Act.put, List.setIfInBounds_toArray, List.set_cons_zero, List.set_cons_succ, v9, v10]
        have HLD := Lib.hid hm.load
        have BS := Lib.hid hS.2
        clear hS hv v9 v10 hm
        go_wp2_with fail
        refine ret_v3 (p := 8) (u := 9) (v := 10) rfl rfl rfl HLD.out ?_
        rw [HRR.out, HCP.out]
        exact ⟨⟨a31, c31, aa, cc, rs, by rw [HNN.out, HER.out]; rfl, H31.out.other V2.out.noH BS.out, M31.out, (Q31.out.mv V2.out BS.out).le HBZ.out.size⟩, HBF.out.trans (BS.out.below (by omega) HBF.out.size)⟩
    · have h64' : (64 : Int) < (nn : Int) := by omega
      have HCP : Hid (capH ex left s ⟨rx, rl, rn, rq, re⟩ = ⟨ex, left, s, [], 7⟩) := Lib.hid (if_neg (by rw [HNN.out]; exact h64))
      clear h64
      obtain ⟨x0, x1, x2, x3, y0, y1, y2, y3⟩ := V1.out.cells
      obtain ⟨z0, z1, z2, z3, t0, t1, t2, t3⟩ := V2.out.cells
      go_wp2_with fail
      refine (mOwn g ex left a n c s w9 HX.out (by omega) HHF.out HF.out).mono ?_
      rintro e w5 ⟨⟨a5, c5, rfl, h5⟩, hb5⟩
      have H5 := Lib.hid h5
      have V25 := Lib.hid (V2.out.below hb5 V2.out.lt)
      have HB5 := Lib.hid (HBF.out.trans (hb5.mono HBF.out.size))
      clear h5 hb5 x0 x1 x2 x3 y0 y1 y2 y3 z0 z1 z2 z3 t0 t1 t2 t3
      obtain ⟨z0, z1, z2, z3, t0, t1, t2, t3⟩ := V25.out.cells
      go_wp2_with fail
      refine ret_v3 (p := 8) (u := 9) (v := 10) rfl rfl rfl (V25.out.store g ex left a5 s.length c5).load ?_
      have BS := V25.out.store_but g ex left a5 s.length c5
      rw [HRR.out, HCP.out]
      exact ⟨⟨a5, c5, none, 0, [], rfl, H5.out.other V25.out.noH BS, rfl, Qs.nil _ _⟩, HB5.out.trans (BS.below (by omega) HB5.out.size)⟩
set_option maxRecDepth 100000 in
set_option maxHeartbeats 16000000 in
theorem mHearBlock (kind : Int) (kp la g : Int) (ex : Bool) (left : Int) (a : Option Addr) (n c : Nat) (s : List Hd) (b : Option Addr) (ln lc : Nat) (xs : List Int) (w : World)
    (hx : s.length = n) (hn : n ≤ 64) (hH : Hs w a s) (hf : True) (hi : Inc (ad s)) (hl : xs.length = ln) (hln : ln ≤ 3000) (hA : As w b xs) (hfl : b = none → lc = 0) (hT : (1 ≤ la ∧ la ≤ 1000000) ∧ (0 ≤ kp ∧ kp ≤ 1000000) ∧ (0 ≤ left ∧ left ≤ 1000000) ∧ (0 ≤ g ∧ g ≤ 4294967295)) (hk : kind = 6) :
    Calls Tryz.prog 14 #[.agg #[.int .i64 kp, .int .i64 la], .agg #[.int .u32 g, .bool ex, .int .i64 left, .slice a n c], .int .u8 kind, .slice b ln lc] w fun e w' => OutHe w e w' g (capH ex left s (hBlock g kp la ex left s (mk xs))) := by
  have HX := Lib.hid hx
  have HH := Lib.hid hH
  have HF := Lib.hid hf
  have HI := Lib.hid hi
  have HL := Lib.hid hl
  have HA := Lib.hid hA
  have HFL := Lib.hid hfl
  have HT := Lib.hid hT
  clear hx hH hf hi hl hA hfl hT
  obtain ⟨w3, hw3⟩ : ∃ w3, w3 = ((w.alloc (.cells #[.int .i64 kp, .int .i64 la] 23)).alloc (.cells #[.int .u32 g, .bool ex, .int .i64 left, .slice a n c] 28)).alloc (.cells #[.int .u32 0, .bool false, .int .i64 0, .slice none 0 0] 28) := ⟨_, rfl⟩
  obtain ⟨hs3, hc, v1, v2, hB3⟩ := mk3h w kp la g ex left a n c w3 hw3
  have HS3 := Lib.hid hs3
  have HB3 := Lib.hid hB3
  have C03 := Lib.hid hc.1
  have C13 := Lib.hid hc.2
  have V13 := Lib.hid v1
  have V23 := Lib.hid v2
  clear hs3 v1 v2 hB3 hc
  go_enter Tryz.func14, Tryz.ntmps14
  go_wp2_with fail
  rw [← hw3]
  clear hw3
  refine (mDoes w3).mono ?_
  rintro e wz ⟨rfl, hmap, hb4⟩
  have V1 := Lib.hid (V13.out.below hb4 V13.out.lt)
  have V2 := Lib.hid (V23.out.below hb4 V23.out.lt)
  have C0 := Lib.hid ((hb4.cell (cell_lt C03.out)).trans C03.out)
  have C1 := Lib.hid ((hb4.cell (cell_lt C13.out)).trans C13.out)
  have HBZ := Lib.hid (HB3.out.trans (hb4.mono HB3.out.size))
  have HH4 := Lib.hid (HH.out.below HBZ.out)
  have HA4 := Lib.hid (HA.out.below HBZ.out)
  subst hk
  have hlk := vlook6 hmap
  clear hmap hb4
  go_wp2
  refine wp_region_last (hrV (.func (.func 79) #[] #[]) w.heap.size kp la g ex left a n c b ln lc s xs (hBlock g kp la ex left s (mk xs)) wz) (fun W => Below wz.heap.size wz W) (fun _ A B => Below A.heap.size A B) hrD [24, 25, 26, 27, 28, 29, 30, 31, 13] (by kernel_rfl) (by kernel_rfl) (by kernel_rfl) (by kernel_rfl) (by kernel_rfl) (by decide) (Below.refl _ wz).drew
    (fun i j oi oj v us A B hoi hoj hij hni hw hSA hr hv => hr_st _ _ _ _ _ _ _ _ _ _ _ _ _ _ _ _ _ (fun e => hni (by subst e; rfl)) hr hv)
    ⟨?_, ?_, ?_, ?_, ?_, ?_, ?_, ?_, ?_, ?_, trivial⟩ ?hend
  case refine_1 =>
    intro a' w9 hS h0 hd
    have e11 : a'.tmps[11]?.getD undef = .func (.func 79) #[] #[] := vev (h0 11 (by kernel_rfl))
    refine Does2.value (.func (.func 79) #[] #[]) (w' := w9) ?_ ⟨rfl, fun _ => ⟨hS, Below.refl _ _⟩⟩
    clear hS h0 hd
    go_simp
  case refine_2 =>
    intro a' w9 hS h0 hd
    have e5 : a'.tmps[5]?.getD undef = .pointer (some ⟨w.heap.size + 1, 0, none⟩) := vev (h0 5 (by kernel_rfl))
    obtain ⟨x0, x1, x2, x3, y0, y1, y2, y3⟩ := (V1.out.below hS V1.out.lt).cells
    refine Does2.value (.agg #[.int .u32 g, .bool ex, .int .i64 left, .slice a n c]) (w' := w9) ?_ ⟨rfl, fun _ => ⟨hS, Below.refl _ _⟩⟩
    clear hS h0 hd
    go_simp
  case refine_3 =>
    intro a' w9 hS h0 hd
    have e25 : a'.tmps[25]?.getD undef = .agg #[.int .u32 g, .bool ex, .int .i64 left, .slice a n c] := vev (hd 1 List.mem_cons_self)
    refine Does2.call 43 #[.agg #[.int .u32 g, .bool ex, .int .i64 left, .slice a n c]] (w' := w9) ?_ ((mOwn g ex left a n c s w9 HX.out (by omega) (HH4.out.below hS) HF.out).mono ?_)
    · clear hS h0 hd
      go_simp
    · rintro e w8 ⟨⟨a8, c8, rfl, hA8⟩, hb⟩
      exact ⟨_, rfl, ⟨a8, c8, rfl, hA8⟩, fun _ => ⟨hS.trans (hb.mono hS.size), hb⟩⟩
  case refine_4 =>
    intro a' w9 hS h0 hd
    have e4 : a'.tmps[4]?.getD undef = .pointer (some ⟨w.heap.size, 0, none⟩) := vev (h0 4 (by kernel_rfl))
    have c0 := (hS.cell (cell_lt C0.out)).trans C0.out
    have c1 := (hS.cell (cell_lt C1.out)).trans C1.out
    refine Does2.value (.agg #[.int .i64 kp, .int .i64 la]) (w' := w9) ?_ ⟨rfl, fun _ => ⟨hS, Below.refl _ _⟩⟩
    clear hS h0 hd
    go_simp
  case refine_5 =>
    intro a' w9 hS h0 hd
    obtain ⟨a26, c26, e26, h26⟩ := hd 2 List.mem_cons_self
    replace e26 := vev e26
    have e27 : a'.tmps[27]?.getD undef = .agg #[.int .i64 kp, .int .i64 la] := vev (hd 3 (List.mem_cons_of_mem _ List.mem_cons_self))
    refine Does2.value (.agg #[.int .u32 g, .bool ex, .int .i64 left, .slice a26 s.length c26, .int .i64 kp, .int .i64 la, .slice none 0 0]) (w' := w9) ?_ ⟨⟨a26, c26, rfl, h26⟩, fun _ => ⟨hS, Below.refl _ _⟩⟩
    clear hS h0 hd h26
    go_simp
  case refine_6 =>
    intro a' w9 hS h0 hd
    have e3 : a'.tmps[3]?.getD undef = .slice b ln lc := vev (h0 3 (by kernel_rfl))
    refine Does2.value (.slice b ln lc) (w' := w9) ?_ ⟨rfl, fun _ => ⟨hS, Below.refl _ _⟩⟩
    clear hS h0 hd
    go_simp
  case refine_7 =>
    intro a' w9 hS h0 hd
    have e29 : a'.tmps[29]?.getD undef = .slice b ln lc := vev (hd 5 List.mem_cons_self)
    refine Does2.call 44 #[.slice b ln lc] (w' := w9) ?_ ((vMake b ln lc xs w9 HL.out (by omega) (HA4.out.below hS) HFL.out).mono ?_)
    · clear hS h0 hd
      go_simp
    · rintro e w8 ⟨⟨a8, c8, rfl, hA8, hf8⟩, hb⟩
      exact ⟨_, rfl, ⟨a8, c8, rfl, hA8⟩, fun _ => ⟨hS.trans (hb.mono hS.size), hb⟩⟩
  case refine_8 =>
    intro a' w9 hS h0 hd
    have e24 : a'.tmps[24]?.getD undef = .func (.func 79) #[] #[] := vev (hd 0 List.mem_cons_self)
    obtain ⟨a26, c26, e28, h26⟩ := hd 4 (List.mem_cons_of_mem _ List.mem_cons_self)
    replace e28 := vev e28
    obtain ⟨a30, c30, e30, h30⟩ := hd 6 (List.mem_cons_of_mem _ (List.mem_cons_of_mem _ List.mem_cons_self))
    replace e30 := vev e30
    refine Does2.call 79 #[.agg #[.int .u32 g, .bool ex, .int .i64 left, .slice a26 s.length c26, .int .i64 kp, .int .i64 la, .slice none 0 0], .slice a30 (mk xs).length c30] (w' := w9) ?_ ((mBlock g ex left a26 _ c26 kp la s a30 _ c30 (mk xs) w9 rfl (by rw [HX.out]; omega) h26 HI.out rfl (Nat.le_trans (mk_len xs) (by rw [HL.out]; omega)) h30 (mk_inc xs) HT.out).mono ?_)
    · clear hS h0 hd
      go_simp
    · rintro e w8 ⟨⟨a8, c8, aa8, cc8, rs8, rfl, hA8, hm8, hq8⟩, hb⟩
      exact ⟨_, rfl, ⟨a8, c8, aa8, cc8, rs8, rfl, hA8, hm8, hq8.le hS.size⟩, fun _ => ⟨hS.trans (hb.mono hS.size), hb⟩⟩
  case refine_9 =>
    intro a' w9 hS h0 hd
    refine Does2.value (.pointer (some ⟨w9.heap.size, 0, none⟩)) (w' := w9.alloc (.cells #[.int .u32 0, .bool false, .int .i64 0, .slice none 0 0, .int .i64 0, .int .i64 0, .slice none 0 0] 95)) ?_ ⟨⟨w9.heap.size, rfl, HV.new w9 0 false 0 none 0 0 0 0 none 0 0, hS.size⟩, fun _ => ⟨hS.alloc hS.size _, bel1 w9 _⟩⟩
    clear hS h0 hd
    go_simp
  case refine_10 =>
    intro a' w9 hS h0 hd
    obtain ⟨B13, e13, v13, k13⟩ := hd 8 List.mem_cons_self
    replace e13 := vev e13
    obtain ⟨a31, c31, aa, cc, rs, e31, h31, m31, q31⟩ := hd 7 (List.mem_cons_of_mem _ List.mem_cons_self)
    replace e31 := vev e31
    obtain ⟨d0, d1, d2, d3, d4, d5, d6, e0, e1, e2, e3, e4, e5, e6⟩ := v13.cells
    have hst := v13.store g (hBlock g kp la ex left s (mk xs)).ex (hBlock g kp la ex left s (mk xs)).left a31 (hBlock g kp la ex left s (mk xs)).s.length c31 kp la aa (List.length rs) cc
    have hbt := v13.store_but g (hBlock g kp la ex left s (mk xs)).ex (hBlock g kp la ex left s (mk xs)).left a31 (hBlock g kp la ex left s (mk xs)).s.length c31 kp la aa (List.length rs) cc
    have hfr := h31.other v13.noH hbt
    have hqr := q31.hv v13 hbt
    have q13 : a'.eval (.tmp 13) = .pointer (some ⟨B13, 0, none⟩) := by simp [Act.eval, e13]
    refine Does2.skip (w' := (((((((w9.setCell ⟨B13, 0, none⟩ (.int .u32 g)).setCell ⟨B13, 1, none⟩ (.bool (hBlock g kp la ex left s (mk xs)).ex)).setCell ⟨B13, 2, none⟩ (.int .i64 (hBlock g kp la ex left s (mk xs)).left)).setCell ⟨B13, 3, none⟩ (.slice a31 (hBlock g kp la ex left s (mk xs)).s.length c31)).setCell ⟨B13, 4, none⟩ (.int .i64 kp)).setCell ⟨B13, 5, none⟩ (.int .i64 la)).setCell ⟨B13, 6, none⟩ (.slice aa (List.length rs) cc))) ?_ ⟨⟨B13, a'.eval (.tmp 31), a31, c31, aa, cc, rs, ?_, hst, hfr, m31, hqr, k13, w9, hS, hbt⟩, fun h => absurd rfl h⟩
    · clear hS h0 hd h31 hst hbt v13 m31 q31 hfr hqr q13
      go_simp
    · show [a'.eval (.tmp 13), a'.eval (.tmp 31)] = _
      rw [q13]
  case hend =>
    intro f w9 hv
    obtain ⟨B13, u2, a31, c31, aa, cc, rs, hu, hst, h31, m31, q31, k13, W, hbW, hbt⟩ := hv
    replace hu : [f 13, f 31] = [.pointer (some ⟨B13, 0, none⟩), u2] := hu
    simp only [List.cons.injEq, and_true] at hu
    obtain ⟨v13, -⟩ := hu
    simp only [putAll, Act.put, List.setIfInBounds_toArray, List.set_cons_zero, List.set_cons_succ, v13]
    have H31 := Lib.hid h31
    have M31 := Lib.hid m31
    have Q31 := Lib.hid q31
    have K13 := Lib.hid k13
    have VH := Lib.hid hst
    have HZ2 : Hid (w.heap.size + 3 ≤ wz.heap.size) := Lib.hid (by have := V2.out.lt; omega)
    have V1f := Lib.hid ((V1.out.below hbW V1.out.lt).but hbt (by have := V1.out.lt; omega))
    have V2f := Lib.hid ((V2.out.below hbW V2.out.lt).but hbt (by have := V2.out.lt; omega))
    have HBF := Lib.hid (HBZ.out.trans ((hbW.mono HBZ.out.size).trans (hbt.below (Nat.le_trans HBZ.out.size k13) (Nat.le_trans HBZ.out.size hbW.size))))
    clear hst h31 m31 q31 hbW hbt v13 k13 V1 V2
    have V1 := V1f
    have V2 := V2f
    clear V1f V2f
    have HHF := Lib.hid (HH.out.below HBF.out)
    obtain ⟨c0, c1, c2, c3, c4, c5, c6, f0, f1, f2, f3, f4, f5, f6⟩ := VH.out.cells
    obtain ⟨rr, hrr⟩ : ∃ rr, (hBlock g kp la ex left s (mk xs)) = rr := ⟨_, rfl⟩
    rw [hrr] at H31 M31 VH c1 c2 c3
    have HRR := Lib.hid hrr
    clear hrr
    obtain ⟨rx, rl, rn, rq, re⟩ := rr
    simp only at H31 M31 VH c1 c2 c3
    obtain ⟨nn, hnn⟩ : ∃ nn, rn.length = nn := ⟨_, rfl⟩
    rw [hnn] at VH c3
    have HNN := Lib.hid hnn
    clear hnn
    by_cases h64 : nn ≤ 64
    · have h64' : (nn : Int) ≤ 64 := by omega
      have HCP : Hid (capH ex left s ⟨rx, rl, rn, rq, re⟩ = ⟨rx, rl, rn, rq, re⟩) := Lib.hid (if_pos (by rw [HNN.out]; exact h64))
      have HER : Hid (re = 0) := Lib.hid (by have := congrArg Hr.er HRR.out; exact this.symm)
      clear h64
      go_wp2
      generalize w9 = wy at *
      refine wp_region_each3 (hzV (w.heap.size + 2) B13 g rx rl a31 nn c31 aa (List.length rs) cc) (fun W => (∃ x1 x2 x3 x4 x5 x6, MV W (w.heap.size + 2) x1 x2 x3 x4 x5 x6) ∧ But1 (w.heap.size + 2) wy W) (fun j A B => j = 4 ∨ A = B) hzD [39, 40, 41, 42, 9, 10] (by kernel_rfl) (by kernel_rfl) (by kernel_rfl) ⟨⟨_, _, _, _, _, _, V2.out⟩, (But1.refl _ wy).drewN 1⟩
        (fun i j oi oj v us A B hoi hoj hij hw hSA hr hv => hz_st _ _ _ _ _ _ _ _ _ _ _ hij hr hv) ?hgd
        ⟨?_, ?_, ?_, ?_, ?_, ?_, ?_, trivial⟩ ?hend
      case hgd =>
        intro i o g b hoi hog v us w hv
        have hi : i < 7 := (Array.getElem?_eq_some_iff.1 hoi).1
        have hc : i = 0 ∨ i = 1 ∨ i = 2 ∨ i = 3 ∨ i = 4 ∨ i = 5 ∨ i = 6 := by omega
        rcases hc with rfl | rfl | rfl | rfl | rfl | rfl | rfl
        · cases hoi; cases hog
        · cases hoi; cases hog
        · cases hoi; cases hog
        · cases hoi; cases hog
        · cases hoi; cases hog
        · cases hoi; cases hog
        · cases hoi; cases hog
      case refine_1 =>
        intro a' w9 hS h0 hd
        have e13 : a'.tmps[13]?.getD undef = .pointer (some ⟨B13, 0, none⟩) := vev (h0 13 (by kernel_rfl))
        refine Does2.value (.pointer (some ⟨B13, 0, none⟩)) (w' := w9) ?_ ⟨rfl, hS, .inr rfl⟩
        clear hS h0 hd
        go_simp
      case refine_2 =>
        intro a' w9 hS h0 hd
        have e39 : a'.tmps[39]?.getD undef = .pointer (some ⟨B13, 0, none⟩) := vev (hd 0 List.mem_cons_self)
        obtain ⟨c0, c1, c2, c3, c4, c5, c6, f0, f1, f2, f3, f4, f5, f6⟩ := (VH.out.but hS.2 (by have := K13.out; have := HZ2.out; omega)).cells
        refine Does2.value (.agg #[.int .u32 g, .bool rx, .int .i64 rl, .slice a31 nn c31]) (w' := w9) ?_ ⟨rfl, hS, .inr rfl⟩
        clear hS h0 hd
        go_simp
      case refine_3 =>
        intro a' w9 hS h0 hd
        have e13 : a'.tmps[13]?.getD undef = .pointer (some ⟨B13, 0, none⟩) := vev (h0 13 (by kernel_rfl))
        refine Does2.value (.pointer (some ⟨B13, 6, none⟩)) (w' := w9) ?_ ⟨rfl, hS, .inr rfl⟩
        clear hS h0 hd
        go_simp
      case refine_4 =>
        intro a' w9 hS h0 hd
        have e41 : a'.tmps[41]?.getD undef = .pointer (some ⟨B13, 6, none⟩) := vev (hd 2 List.mem_cons_self)
        obtain ⟨c0, c1, c2, c3, c4, c5, c6, f0, f1, f2, f3, f4, f5, f6⟩ := (VH.out.but hS.2 (by have := K13.out; have := HZ2.out; omega)).cells
        refine Does2.value (.slice aa (List.length rs) cc) (w' := w9) ?_ ⟨rfl, hS, .inr rfl⟩
        clear hS h0 hd
        go_simp
      case refine_5 =>
        intro a' w9 hS h0 hd
        have e8 : a'.tmps[8]?.getD undef = .pointer (some ⟨w.heap.size + 2, 0, none⟩) := vev (h0 8 (by kernel_rfl))
        have e40 : a'.tmps[40]?.getD undef = .agg #[.int .u32 g, .bool rx, .int .i64 rl, .slice a31 nn c31] := vev (hd 1 List.mem_cons_self)
        obtain ⟨p1, p2, p3, p4, p5, p6, vm⟩ := hS.1
        obtain ⟨x0, x1, x2, x3, y0, y1, y2, y3⟩ := vm.cells
        have hst := vm.store g rx rl a31 nn c31
        have hbt := vm.store_but g rx rl a31 nn c31
        refine Does2.skip (w' := (((w9.setCell ⟨w.heap.size + 2, 0, none⟩ (.int .u32 g)).setCell ⟨w.heap.size + 2, 1, none⟩ (.bool rx)).setCell ⟨w.heap.size + 2, 2, none⟩ (.int .i64 rl)).setCell ⟨w.heap.size + 2, 3, none⟩ (.slice a31 nn c31)) ?_ ⟨hst, ⟨⟨_, _, _, _, _, _, hst⟩, hS.2.trans hbt⟩, .inl rfl⟩
        clear hS h0 hd vm hst hbt
        go_simp
      case refine_6 =>
        intro a' w9 hS h0 hd
        have e42 : a'.tmps[42]?.getD undef = .slice aa (List.length rs) cc := vev (hd 3 List.mem_cons_self)
        refine Does2.value (.slice aa (List.length rs) cc) (w' := w9) ?_ ⟨rfl, hS, .inr rfl⟩
        clear hS h0 hd
        go_simp
      case refine_7 =>
        intro a' w9 hS h0 hd
        refine Does2.value (.int .i64 0) (w' := w9) ?_ ⟨rfl, hS, .inr rfl⟩
        clear hS h0 hd
        go_simp
      case hend =>
        intro f2 w4 hS hv
        have v9 := hv 5 (by decide)
        replace v9 : f2 9 = .slice aa (List.length rs) cc := v9
        have v10 := hv 6 (by decide)
        replace v10 : f2 10 = .int .i64 0 := v10
        have hm := hv 4 (by decide)
        replace hm : MV w4 (w.heap.size + 2) g rx rl a31 nn c31 := hm
        simp only [putAll, Act.put, List.setIfInBounds_toArray, List.set_cons_zero, List.set_cons_succ, v9, v10]
        have HLD := Lib.hid hm.load
        have BS := Lib.hid hS.2
        clear hS hv v9 v10 hm
        go_wp2_with fail
        refine ret_v3 (p := 8) (u := 9) (v := 10) rfl rfl rfl HLD.out ?_
        rw [HRR.out, HCP.out]
        exact ⟨⟨a31, c31, aa, cc, rs, by rw [HNN.out, HER.out]; rfl, H31.out.other V2.out.noH BS.out, M31.out, (Q31.out.mv V2.out BS.out).le HBZ.out.size⟩, HBF.out.trans (BS.out.below (by omega) HBF.out.size)⟩
    · have h64' : (64 : Int) < (nn : Int) := by omega
      have HCP : Hid (capH ex left s ⟨rx, rl, rn, rq, re⟩ = ⟨ex, left, s, [], 7⟩) := Lib.hid (if_neg (by rw [HNN.out]; exact h64))
      clear h64
      obtain ⟨x0, x1, x2, x3, y0, y1, y2, y3⟩ := V1.out.cells
      obtain ⟨z0, z1, z2, z3, t0, t1, t2, t3⟩ := V2.out.cells
      go_wp2_with fail
      refine (mOwn g ex left a n c s w9 HX.out (by omega) HHF.out HF.out).mono ?_
      rintro e w5 ⟨⟨a5, c5, rfl, h5⟩, hb5⟩
      have H5 := Lib.hid h5
      have V25 := Lib.hid (V2.out.below hb5 V2.out.lt)
      have HB5 := Lib.hid (HBF.out.trans (hb5.mono HBF.out.size))
      clear h5 hb5 x0 x1 x2 x3 y0 y1 y2 y3 z0 z1 z2 z3 t0 t1 t2 t3
      obtain ⟨z0, z1, z2, z3, t0, t1, t2, t3⟩ := V25.out.cells
      go_wp2_with fail
      refine ret_v3 (p := 8) (u := 9) (v := 10) rfl rfl rfl (V25.out.store g ex left a5 s.length c5).load ?_
      have BS := V25.out.store_but g ex left a5 s.length c5
      rw [HRR.out, HCP.out]
      exact ⟨⟨a5, c5, none, 0, [], rfl, H5.out.other V25.out.noH BS, rfl, Qs.nil _ _⟩, HB5.out.trans (BS.below (by omega) HB5.out.size)⟩
theorem mHear0 (kind : Int) (kp la g : Int) (ex : Bool) (left : Int) (a : Option Addr) (n c : Nat) (s : List Hd) (b : Option Addr) (ln lc : Nat) (xs : List Int) (w : World)
    (hx : s.length = n) (hn : n ≤ 64) (hH : Hs w a s) (hf : True) (hi : Inc (ad s)) (hl : xs.length = ln) (hln : ln ≤ 3000) (hA : As w b xs) (hfl : b = none → lc = 0) (hT : (1 ≤ la ∧ la ≤ 1000000) ∧ (0 ≤ kp ∧ kp ≤ 1000000) ∧ (0 ≤ left ∧ left ≤ 1000000) ∧ (0 ≤ g ∧ g ≤ 4294967295)) :
    Calls Tryz.prog 14 #[.agg #[.int .i64 kp, .int .i64 la], .agg #[.int .u32 g, .bool ex, .int .i64 left, .slice a n c], .int .u8 kind, .slice b ln lc] w fun e w' => OutHe w e w' g (hearP g kp la ex left s kind xs) := by
  unfold hearP
  by_cases h1 : kind = 1 ∨ kind = 5
  · rw [if_pos h1]
    exact mHearAllow kind kp la g ex left a n c s b ln lc xs w hx hn hH hf hi hl hln hA hfl hT h1
  rw [if_neg h1]
  by_cases h2 : kind = 2
  · rw [if_pos h2]
    exact mHearIsEx kind kp la g ex left a n c s b ln lc xs w hx hn hH hf hi hl hln hA hfl hT h2
  rw [if_neg h2]
  by_cases h3 : kind = 3
  · rw [if_pos h3]
    exact mHearToIn kind kp la g ex left a n c s b ln lc xs w hx hn hH hf hi hl hln hA hfl hT h3
  rw [if_neg h3]
  by_cases h4 : kind = 4
  · rw [if_pos h4]
    exact mHearToEx kind kp la g ex left a n c s b ln lc xs w hx hn hH hf hi hl hln hA hfl hT h4
  rw [if_neg h4]
  by_cases h6 : kind = 6
  · rw [if_pos h6]
    exact mHearBlock kind kp la g ex left a n c s b ln lc xs w hx hn hH hf hi hl hln hA hfl hT h6
  rw [if_neg h6]
  exact mHearNo kind kp la g ex left a n c s b ln lc xs w hx hn hH hf hi hl hln hA hfl hT (by omega)
theorem mHear (kind : Int) (kp la g : Int) (ex : Bool) (left : Int) (a : Option Addr) (n c : Nat) (s : List Hd) (b : Option Addr) (ln lc : Nat) (xs : List Int) (w : World)
    (hx : s.length = n) (hn : n ≤ 64) (hH : Hs w a s) (hf : a = none → c = 0) (hi : Inc (ad s)) (hl : xs.length = ln) (hln : ln ≤ 3000) (hA : As w b xs) (hfl : b = none → lc = 0) (hT : (1 ≤ la ∧ la ≤ 1000000) ∧ (0 ≤ kp ∧ kp ≤ 1000000) ∧ (0 ≤ left ∧ left ≤ 1000000) ∧ (0 ≤ g ∧ g ≤ 4294967295)) :
    Calls Tryz.prog 14 #[.agg #[.int .i64 kp, .int .i64 la], .agg #[.int .u32 g, .bool ex, .int .i64 left, .slice a n c], .int .u8 kind, .slice b ln lc] w fun e w' => OutHe w e w' g (hearP g kp la ex left s kind xs) :=
  mHear0 kind kp la g ex left a n c s b ln lc xs w hx hn hH trivial hi hl hln hA hfl hT
end Go.Proofs.YtiabbkjmgaemaaaGreat
