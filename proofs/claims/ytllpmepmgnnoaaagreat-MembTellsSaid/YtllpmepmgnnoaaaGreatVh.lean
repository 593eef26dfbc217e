/- What is asked: rows of questions; ask. -/
import Derived.Test.YtllpmepmgnnoaaaGreatVg
namespace Go.Proofs.YtllpmepmgnnoaaaGreat
set_option linter.unusedVariables false
open Go.RowKit

/-- A question, and where its sources lie. -/
structure Qr where
  g : Int
  srcs : List Int
  a : Option Addr
  c : Nat
def Qr.sl (r : Qr) : Value := .slice r.a r.srcs.length r.c
def Qr.nm (r : Qr) : Int × List Int := (r.g, r.srcs)
def qv (rs : List Qr) : List Value := rs.flatMap fun r => [.int .u32 r.g, r.sl]
theorem qv_one (r : Qr) : qv [r] = [.int .u32 r.g, r.sl] := by simp [qv]
theorem qv_append (a b : List Qr) : qv (a ++ b) = qv a ++ qv b := by simp [qv]
def QOk (w : World) (r : Qr) : Prop := (0 ≤ r.g ∧ r.g ≤ 4294967295) ∧ IsA r.srcs ∧ w.ownsRow 0 25 1 (.slice r.a r.srcs.length r.c) r.srcs.length (va r.srcs)
def Qs (w : World) (B : Nat) (a : Option Addr) (c : Nat) (rs : List Qr) : Prop := w.ownsRow B 65 2 (.slice a rs.length c) rs.length (qv rs) ∧ ∀ r ∈ rs, QOk w r
theorem QOk.below {w w' : World} {r : Qr} (h : QOk w r) (hb : Below w.heap.size w w') : QOk w' r := ⟨h.1, h.2.1, own_grown h.2.2 hb (Nat.le_refl _)⟩
theorem Qs.below {w w' : World} {B : Nat} {a : Option Addr} {c : Nat} {rs : List Qr} (h : Qs w B a c rs) (hb : Below w.heap.size w w') : Qs w' B a c rs := ⟨own_grown h.1 hb (Nat.le_refl _), fun r hr => (h.2 r hr).below hb⟩
theorem Qs.le {w : World} {B B' : Nat} {a : Option Addr} {c : Nat} {rs : List Qr} (h : Qs w B a c rs) (hB : B' ≤ B) : Qs w B' a c rs := ⟨vown_le h.1 hB, h.2⟩
theorem QOk.hv {w w' : World} {r : Qr} (h : QOk w r) {X : Nat} {g : Int} {ex : Bool} {left : Int} {a : Option Addr} {n c : Nat} {k la : Int} {aq : Option Addr} {nq cq : Nat} (hX : HV w X g ex left a n c k la aq nq cq) (hb : But1 X w w') : QOk w' r := ⟨h.1, h.2.1, vown_ty h.2.2 hX (by decide) hb⟩
theorem Qs.hv {w w' : World} {B : Nat} {aa : Option Addr} {cc : Nat} {rs : List Qr} (h : Qs w B aa cc rs) {X : Nat} {g : Int} {ex : Bool} {left : Int} {a : Option Addr} {n c : Nat} {k la : Int} {aq : Option Addr} {nq cq : Nat} (hX : HV w X g ex left a n c k la aq nq cq) (hb : But1 X w w') : Qs w' B aa cc rs :=
  ⟨vown_ty h.1 hX (by decide) hb, fun r hr => (h.2 r hr).hv hX hb⟩
theorem Qs.mv {w w' : World} {B : Nat} {aa : Option Addr} {cc : Nat} {rs : List Qr} (h : Qs w B aa cc rs) {X : Nat} {g : Int} {ex : Bool} {left : Int} {a : Option Addr} {n c : Nat} (hX : MV w X g ex left a n c) (hb : But1 X w w') : Qs w' B aa cc rs :=
  ⟨vown_ty h.1 hX (by decide) hb, fun r hr => ⟨(h.2 r hr).1, (h.2 r hr).2.1, vown_ty (h.2 r hr).2.2 hX (by decide) hb⟩⟩
theorem Qs.nil (w : World) (B : Nat) : Qs w B none 0 [] := ⟨World.ownsRow_nil _ _ _ _, fun r h => absurd h (by simp)⟩
theorem infoQ : (Tryz.prog.info? 65).map (fun i => (i.zero, i.size, i.bytes)) = some (some (.agg #[.int .u32 0, .slice none 0 0]), 2, 32) := by kernel_rfl
/-- What is handed back of a record that is heard: its sources, and what is asked. -/
def OutA (w : World) (e : Ending) (w' : World) (g : Int) (ex : Bool) (left : Int) (s : List Hd) (k la : Int) (Q : List (Int × List Int)) : Prop :=
  (∃ a c aa cc rs, e = .returned (.agg #[.int .u32 g, .bool ex, .int .i64 left, .slice a s.length c, .int .i64 k, .int .i64 la, .slice aa (List.length rs) cc]) ∧ HT w' a s ∧ rs.map Qr.nm = Q ∧ Qs w' w.heap.size aa cc rs) ∧ Below w.heap.size w w'
def askS (s : List Hd) (la : Int) (xs : List Int) : List Hd := if xs = [] then s else keepS s (int xs (ad (s.filter fun x => decide (la < x.2)))) la
def askQ (g : Int) (xs : List Int) : List (Int × List Int) := if xs = [] then [] else [(g, xs)]
def akV (N : Nat) (g : Int) (ex : Bool) (left : Int) (a : Option Addr) (n c : Nat) (kp la : Int) (aq : Option Addr) (nq cq : Nat) (b : Option Addr) (ln lc : Nat) (b5 : Option Addr) (n5 d5 : Nat) (xs ls : List Int) (s : List Hd) (W0 : World) : Nat → Value → List Value → World → Prop
  | 0, v, _, _ => v = .agg #[.int .u32 g, .bool ex, .int .i64 left, .slice a n c, .int .i64 kp, .int .i64 la, .slice aq nq cq]
  | 1, v, _, _ => v = .slice b ln lc
  | 2, v, _, _ => v = .slice b5 n5 d5
  | 3, v, _, w => ∃ (a29 : Option Addr) (c29 : Nat), v = .slice a29 (int xs ls).length c29 ∧ As w a29 (int xs ls)
  | 4, v, _, _ => v = .pointer (some ⟨N, 4, none⟩)
  | 5, v, _, _ => v = .pointer (some ⟨N, 5, none⟩)
  | 6, v, _, _ => v = .int .i64 la
  | 7, v, _, w => ∃ (a33 : Option Addr) (c33 : Nat), v = .agg #[.int .u32 g, .bool ex, .int .i64 left, .slice a33 (keepS s (int xs ls) la).length c33, .int .i64 kp, .int .i64 la, .slice aq nq cq] ∧ HT w a33 (keepS s (int xs ls) la)
  | 8, v, us, w => ∃ a33 c33, HV w (N + 1) g ex left a33 (keepS s (int xs ls) la).length c33 kp la aq nq cq ∧ HT w a33 (keepS s (int xs ls) la) ∧ ∃ W, Below W0.heap.size W0 W ∧ But1 (N + 1) W w ∧ HV W (N + 1) 0 false 0 none 0 0 0 0 none 0 0
  | _, _, _, _ => True
def akD : Nat → List Nat
  | 3 => [1, 2]
  | 5 => [4]
  | 6 => [5]
  | 7 => [0, 3, 6]
  | 8 => [7]
  | _ => []
theorem ak_st (N : Nat) (g : Int) (ex : Bool) (left : Int) (a : Option Addr) (n c : Nat) (kp la : Int) (aq : Option Addr) (nq cq : Nat) (b : Option Addr) (ln lc : Nat) (b5 : Option Addr) (n5 d5 : Nat) (xs ls : List Int) (s : List Hd) (W0 : World) {i : Nat} {v : Value} {us : List Value} {w w' : World} (h8 : i ≠ 8) (hr : Below w.heap.size w w') (hv : akV N g ex left a n c kp la aq nq cq b ln lc b5 n5 d5 xs ls s W0 i v us w) : akV N g ex left a n c kp la aq nq cq b ln lc b5 n5 d5 xs ls s W0 i v us w' := by
  unfold akV at hv ⊢
  split at hv
  all_goals first
    | exact hv
    | (obtain ⟨x, y, e, h⟩ := hv; exact ⟨x, y, e, h.below hr⟩)
    | exact absurd rfl h8
set_option maxRecDepth 100000 in
set_option maxHeartbeats 16000000 in
theorem mAsk (g : Int) (ex : Bool) (left : Int) (a : Option Addr) (n c : Nat) (kp la : Int) (s : List Hd) (b : Option Addr) (ln lc : Nat) (xs : List Int) (w : World)
    (hx : s.length = n) (hn : n ≤ 20000) (hH : HT w a s) (hi : Inc (ad s)) (hl : xs.length = ln) (hln : ln ≤ 20000) (hA : IsA xs) (hO : w.ownsRow 0 25 1 (.slice b ln lc) ln (va xs)) (hxi : Inc xs) (hT : -9223372036854775808 ≤ la ∧ la ≤ 9223372036854775807) (hg : 0 ≤ g ∧ g ≤ 4294967295) :
    Calls Tryz.prog 62 #[.agg #[.int .u32 g, .bool ex, .int .i64 left, .slice a n c, .int .i64 kp, .int .i64 la, .slice none 0 0], .slice b ln lc] w fun e w' =>
      OutA w e w' g ex left (askS s la xs) kp la (askQ g xs) := by
  have hn : n ≤ 100000 := by omega
  obtain ⟨i0, hi0, hz0, hz1, hz2⟩ := info_parts infoQ
  subst hl
  have hAs := vown_as hO hA
  have HX := Lib.hid hx
  have HH := Lib.hid hH
  have HI := Lib.hid hi
  have HA := Lib.hid hAs
  have HO := Lib.hid hO
  have HIA := Lib.hid hA
  have HXI := Lib.hid hxi
  have HT := Lib.hid hT
  have HG := Lib.hid hg
  clear hx hH hi hA hAs hO hxi hT hg
  obtain ⟨ln, hl⟩ : ∃ ln, xs.length = ln := ⟨_, rfl⟩
  rw [hl] at hln HO ⊢
  have HL := Lib.hid hl
  clear hl
  obtain ⟨w2, hw2⟩ : ∃ w2, w2 = (w.alloc (.cells #[.int .u32 g, .bool ex, .int .i64 left, .slice a n c, .int .i64 kp, .int .i64 la, .slice none 0 0] 58)).alloc (.cells #[.int .u32 0, .bool false, .int .i64 0, .slice none 0 0, .int .i64 0, .int .i64 0, .slice none 0 0] 58) := ⟨_, rfl⟩
  obtain ⟨hs2, v0, v1, hB2⟩ := mk2 w g ex left a n c kp la none 0 0 w2 hw2
  have HS2 := Lib.hid hs2
  have HB2 := Lib.hid hB2
  have V0 := Lib.hid v0
  have V1 := Lib.hid v1
  clear hs2 v0 v1 hB2
  go_enter Tryz.func62, Tryz.ntmps62
  by_cases hz : ln = 0
  · subst hz
    have hxs : xs = [] := List.eq_nil_of_length_eq_zero HL.out
    subst hxs
    go_wp2
    clear hw2
    have e1 : (w.alloc (.cells #[.int .u32 g, .bool ex, .int .i64 left, .slice a n c, .int .i64 kp, .int .i64 la, .slice none 0 0] 58)).heap.size = w.heap.size + 1 := World.size_alloc _ _
    have v1 := HV.new (w.alloc (.cells #[.int .u32 g, .bool ex, .int .i64 left, .slice a n c, .int .i64 kp, .int .i64 la, .slice none 0 0] 58)) g ex left a n c kp la none 0 0
    rw [e1] at v1
    refine ret_cell1 (p := 4) rfl rfl rfl v1.load ?_
    have hb := bel2 w (.cells #[.int .u32 g, .bool ex, .int .i64 left, .slice a n c, .int .i64 kp, .int .i64 la, .slice none 0 0] 58) (.cells #[.int .u32 g, .bool ex, .int .i64 left, .slice a n c, .int .i64 kp, .int .i64 la, .slice none 0 0] 58)
    have hxl := HX.out
    subst hxl
    exact ⟨⟨a, c, none, 0, [], rfl, HH.out.below hb, rfl, Qs.nil _ _⟩, hb⟩
  · have hne : xs ≠ [] := fun e => hz (by rw [← HL.out, e]; rfl)
    have hz1' : ((ln : Int) == 0) = false := by simpa using hz
    have HKS : Hid (askS s la xs = keepS s (int xs (ad (s.filter fun x => decide (la < x.2)))) la) := Lib.hid (if_neg hne)
    have HAQ : Hid (askQ g xs = [(g, xs)]) := Lib.hid (if_neg hne)
    clear hne hz
    go_wp2_with fail
    rw [← hw2]
    clear hw2
    refine (mThoseA (.pointer (some ⟨w.heap.size, 0, none⟩)) (fun x => decide (la < x.2)) a n c s w2 HX.out hn (HH.out.1.below HB2.out) (fun w1 x hb _ => cAsk w.heap.size la x w1 (V0.out.below hb V0.out.lt).cells.2.2.2.2.2.1)).mono ?_
    rintro e w4 ⟨⟨a4, c4, rfl, ho4⟩, hb4⟩
    have HS4 := Lib.hid (own_hs ho4 rfl (ins_filter _ HH.out.1.2))
    have V04 := Lib.hid (V0.out.below hb4 V0.out.lt)
    have V14 := Lib.hid (V1.out.below hb4 V1.out.lt)
    have HB4 := Lib.hid (HB2.out.trans (hb4.mono HB2.out.size))
    have hfl : (s.filter fun x => decide (la < x.2)).length ≤ 20000 := Nat.le_trans (List.length_filter_le _ _) (by rw [HX.out]; omega)
    clear ho4 hb4 V0 V1 HB2
    go_wp2_with fail
    refine (mAddrs a4 _ c4 _ _ rfl (by omega) HS4.out).mono ?_
    rintro e w5 ⟨⟨b5, d5, rfl, hA5, hf5, ho5⟩, hb5⟩
    have HA5' := Lib.hid hA5
    have HOO5 := Lib.hid ho5
    have V05 := Lib.hid (V04.out.below hb5 V04.out.lt)
    have V15 := Lib.hid (V14.out.below hb5 V14.out.lt)
    have HB5 := Lib.hid (HB4.out.trans (hb5.mono HB4.out.size))
    have HZ5 : Hid (w.heap.size + 2 ≤ w5.heap.size) := Lib.hid (by have := V15.out.lt; omega)
    have HLI : Hid (Inc (ad (s.filter fun x => decide (la < x.2)))) := Lib.hid (ad_filter_inc _ HI.out)
    have hll : (ad (s.filter fun x => decide (la < x.2))).length ≤ 20000 := by rw [ad_len]; exact hfl
    clear hA5 hf5 ho5 hb5 V04 V14 HB4 HS4 hfl
    obtain ⟨ls, hls⟩ : ∃ ls, ad (s.filter fun x => decide (la < x.2)) = ls := ⟨_, rfl⟩
    rw [hls] at HKS HA5' HOO5 HLI hll ⊢
    clear hls
    obtain ⟨n5, hn5⟩ : ∃ n5, ls.length = n5 := ⟨_, rfl⟩
    rw [hn5] at hll HOO5 ⊢
    have HN5 := Lib.hid hn5
    clear hn5
    have hn1 := news_new w5 [.int .u32 g, .slice b ln lc] 65
    have HN1 := Lib.hid hn1
    clear hn1
    obtain ⟨c0, c1, c2, c3, c4, c5, c6, f0, f1, f2, f3, f4, f5, f6⟩ := V05.out.cells
    go_wp2_with ((refine wpList_app_cell rfl 35 65 i0 _ 2 32 Tryz.underlying35 hi0 hz0 hz1 hz2 rfl (by decide) (by omega) (.tmp 17) (.tmp 23) rfl (w.heap.size + 2) _ 0 [] rfl (World.ownsRow_nil _ _ _ _) ⟨w5.heap.size, 0, none⟩ 1 [.int .u32 g, .slice b ln lc] rfl rfl HN1.out (by simp [Value.oneCell']) (by omega) (by have := HZ5.out; simp; omega) ?_; intro aq' cq' w' hown hg; have hbb : Hid (Below w5.heap.size w5 w') := Lib.hid (((Below.refl _ w5).alloc (Nat.le_refl _) _).trans (grown_below (World.ownsRow_nil _ w5.heap.size 65 2) hg.out (by simp))); have V0' := Lib.hid (V05.out.below hbb.out V05.out.lt); have V1' := Lib.hid (V15.out.below hbb.out V15.out.lt); clear c0 c1 c2 c3 c4 c5 c6 f0 f1 f2 f3 f4 f5 f6; obtain ⟨c0, c1, c2, c3, c4, c5, c6, f0, f1, f2, f3, f4, f5, f6⟩ := V0'.out.cells))
    have BS := But1.set w' w.heap.size 6 (.slice aq' 1 cq')
    have HB6 := Lib.hid (HB5.out.trans (hbb.out.mono HB5.out.size))
    have HB9 := Lib.hid (HB6.out.trans (BS.below (Nat.le_refl _) HB6.out.size))
    have HQ0 : Qs w' (w.heap.size + 2) aq' cq' [⟨g, xs, b, lc⟩] := ⟨by rw [qv_one]; simpa [Qr.sl, HL.out] using hown.out, fun r hr => by
      obtain rfl : r = ⟨g, xs, b, lc⟩ := by simpa using hr
      exact ⟨HG.out, HIA.out, by rw [HL.out]; exact own_grown HO.out HB6.out (Nat.le_refl _)⟩⟩
    have HQ := Lib.hid ((HQ0.hv V0'.out BS).le (B' := w.heap.size) (by omega))
    have HRS : Hid (List.map Qr.nm [⟨g, xs, b, lc⟩] = askQ g xs) := Lib.hid (by rw [HAQ.out]; rfl)
    have V0 := Lib.hid (V0'.out.set6 aq' 1 cq')
    have V1 := Lib.hid (V1'.out.but BS (by omega))
    have HHW := Lib.hid (HH.out.below HB9.out)
    have HAW := Lib.hid (HA.out.below HB9.out)
    have HA5 := Lib.hid (vown_as (by rw [HN5.out]; exact vown_ty (own_grown HOO5.out hbb.out (Nat.le_refl _)) V0'.out (by decide) BS) HA5'.out.2)
    have HNQ : Hid (1 = ([⟨g, xs, b, lc⟩] : List Qr).length) := Lib.hid rfl
    generalize ([⟨g, xs, b, lc⟩] : List Qr) = rs at *
    clear c0 c1 c2 c3 c4 c5 c6 f0 f1 f2 f3 f4 f5 f6 BS hown hg hbb V0' V1' HB6 HQ0 V05 V15 HB5 HA5' HZ5 HN1 HAQ
    generalize w'.setCell ⟨w.heap.size, 6, none⟩ (.slice aq' 1 cq') = w9' at *
    refine wp_region_last (akV w.heap.size g ex left a n c kp la aq' 1 cq' b ln lc b5 n5 d5 xs ls s w9') (fun W => Below w9'.heap.size w9' W) (fun _ A B => Below A.heap.size A B) akD [26, 27, 28, 29, 30, 31, 32, 33] (by kernel_rfl) (by kernel_rfl) (by kernel_rfl) (by kernel_rfl) (by kernel_rfl) (by decide) (Below.refl _ w9').drew
      (fun i j oi oj v us A B hoi hoj hij hni hw hSA hr hv => ak_st _ _ _ _ _ _ _ _ _ _ _ _ _ _ _ _ _ _ _ _ _ _ (fun e => hni (by subst e; rfl)) hr hv)
      ⟨?_, ?_, ?_, ?_, ?_, ?_, ?_, ?_, ?_, trivial⟩ ?hend
    case refine_1 =>
      intro a' w9 hS h0 hd
      have e2 : a'.tmps[2]?.getD undef = .pointer (some ⟨w.heap.size, 0, none⟩) := vev (h0 2 (by kernel_rfl))
      obtain ⟨c0, c1, c2, c3, c4, c5, c6, f0, f1, f2, f3, f4, f5, f6⟩ := (V0.out.below hS V0.out.lt).cells
      refine Does2.value (.agg #[.int .u32 g, .bool ex, .int .i64 left, .slice a n c, .int .i64 kp, .int .i64 la, .slice aq' 1 cq']) (w' := w9) ?_ ⟨rfl, fun _ => ⟨hS, Below.refl _ _⟩⟩
      clear hS h0 hd
      go_simp
    case refine_2 =>
      intro a' w9 hS h0 hd
      have e1 : a'.tmps[1]?.getD undef = .slice b ln lc := vev (h0 1 (by kernel_rfl))
      refine Does2.value (.slice b ln lc) (w' := w9) ?_ ⟨rfl, fun _ => ⟨hS, Below.refl _ _⟩⟩
      clear hS h0 hd
      go_simp
    case refine_3 =>
      intro a' w9 hS h0 hd
      have e5 : a'.tmps[5]?.getD undef = .slice b5 n5 d5 := vev (h0 5 (by kernel_rfl))
      refine Does2.value (.slice b5 n5 d5) (w' := w9) ?_ ⟨rfl, fun _ => ⟨hS, Below.refl _ _⟩⟩
      clear hS h0 hd
      go_simp
    case refine_4 =>
      intro a' w9 hS h0 hd
      have e27 : a'.tmps[27]?.getD undef = .slice b ln lc := vev (hd 1 List.mem_cons_self)
      have e28 : a'.tmps[28]?.getD undef = .slice b5 n5 d5 := vev (hd 2 (List.mem_cons_of_mem _ List.mem_cons_self))
      refine Does2.call 65 #[.slice b ln lc, .slice b5 n5 d5] (w' := w9) ?_ ((vInter b b5 ln n5 lc d5 xs ls w9 HL.out HN5.out (by omega) (by omega) (HAW.out.below hS) (HA5.out.below hS)).mono ?_)
      · clear hS h0 hd
        go_simp
      · rintro e w8 ⟨⟨a8, c8, rfl, hA8, hf8, ho8⟩, hb⟩
        exact ⟨_, rfl, ⟨a8, c8, rfl, hA8⟩, fun _ => ⟨hS.trans (hb.mono hS.size), hb⟩⟩
    case refine_5 =>
      intro a' w9 hS h0 hd
      have e2 : a'.tmps[2]?.getD undef = .pointer (some ⟨w.heap.size, 0, none⟩) := vev (h0 2 (by kernel_rfl))
      refine Does2.value (.pointer (some ⟨w.heap.size, 4, none⟩)) (w' := w9) ?_ ⟨rfl, fun _ => ⟨hS, Below.refl _ _⟩⟩
      clear hS h0 hd
      go_simp
    case refine_6 =>
      intro a' w9 hS h0 hd
      have e30 : a'.tmps[30]?.getD undef = .pointer (some ⟨w.heap.size, 4, none⟩) := vev (hd 4 List.mem_cons_self)
      refine Does2.value (.pointer (some ⟨w.heap.size, 5, none⟩)) (w' := w9) ?_ ⟨rfl, fun _ => ⟨hS, Below.refl _ _⟩⟩
      clear hS h0 hd
      go_simp
    case refine_7 =>
      intro a' w9 hS h0 hd
      have e31 : a'.tmps[31]?.getD undef = .pointer (some ⟨w.heap.size, 5, none⟩) := vev (hd 5 List.mem_cons_self)
      obtain ⟨c0, c1, c2, c3, c4, c5, c6, f0, f1, f2, f3, f4, f5, f6⟩ := (V0.out.below hS V0.out.lt).cells
      refine Does2.value (.int .i64 la) (w' := w9) ?_ ⟨rfl, fun _ => ⟨hS, Below.refl _ _⟩⟩
      clear hS h0 hd
      go_simp
    case refine_8 =>
      intro a' w9 hS h0 hd
      have e26 : a'.tmps[26]?.getD undef = .agg #[.int .u32 g, .bool ex, .int .i64 left, .slice a n c, .int .i64 kp, .int .i64 la, .slice aq' 1 cq'] := vev (hd 0 List.mem_cons_self)
      obtain ⟨a29, c29, e29, h29⟩ := hd 3 (List.mem_cons_of_mem _ List.mem_cons_self)
      replace e29 := vev e29
      have e32 : a'.tmps[32]?.getD undef = .int .i64 la := vev (hd 6 (List.mem_cons_of_mem _ (List.mem_cons_of_mem _ List.mem_cons_self)))
      refine Does2.call 60 #[.agg #[.int .u32 g, .bool ex, .int .i64 left, .slice a n c, .int .i64 kp, .int .i64 la, .slice aq' 1 cq'], .slice a29 (int xs ls).length c29, .int .i64 la] (w' := w9) ?_ ((mKeep g ex left a n c kp la aq' 1 cq' s a29 _ c29 (int xs ls) la w9 HX.out hn (HHW.out.1.below hS) HI.out rfl (by have := those_len (fun p q => p && q) xs ls; have h1 := HL.out; have h2 := HN5.out; unfold int; omega) h29 (int_inc HXI.out HLI.out) HT.out).mono ?_)
      · clear hS h0 hd
        go_simp
      · rintro e w8 ⟨⟨a8, c8, rfl, hA8⟩, hb⟩
        exact ⟨_, rfl, ⟨a8, c8, rfl, hA8⟩, fun _ => ⟨hS.trans (hb.mono hS.size), hb⟩⟩
    case refine_9 =>
      intro a' w9 hS h0 hd
      have e4 : a'.tmps[4]?.getD undef = .pointer (some ⟨w.heap.size + 1, 0, none⟩) := vev (h0 4 (by kernel_rfl))
      obtain ⟨a33, c33, e33, h33⟩ := hd 7 List.mem_cons_self
      replace e33 := vev e33
      have v1 := V1.out.below hS V1.out.lt
      obtain ⟨d0, d1, d2, d3, d4, d5, d6, e0, e1, e2, e3, e4, e5, e6⟩ := v1.cells
      have hst := v1.store g ex left a33 (keepS s (int xs ls) la).length c33 kp la aq' 1 cq'
      have hbt := v1.store_but g ex left a33 (keepS s (int xs ls) la).length c33 kp la aq' 1 cq'
      refine Does2.skip (w' := (((((((w9.setCell ⟨w.heap.size + 1, 0, none⟩ (.int .u32 g)).setCell ⟨w.heap.size + 1, 1, none⟩ (.bool ex)).setCell ⟨w.heap.size + 1, 2, none⟩ (.int .i64 left)).setCell ⟨w.heap.size + 1, 3, none⟩ (.slice a33 (keepS s (int xs ls) la).length c33)).setCell ⟨w.heap.size + 1, 4, none⟩ (.int .i64 kp)).setCell ⟨w.heap.size + 1, 5, none⟩ (.int .i64 la)).setCell ⟨w.heap.size + 1, 6, none⟩ (.slice aq' 1 cq'))) ?_ ⟨⟨a33, c33, hst, h33.other v1.noH hbt, w9, hS, hbt, v1⟩, fun h => absurd rfl h⟩
      clear hS h0 hd h33 hst hbt v1
      go_simp
    case hend =>
      intro f w9 hv
      obtain ⟨a33, c33, hst, h33, W, hbW, hbt, hz⟩ := hv
      simp only [putAll, Act.put, List.setIfInBounds_toArray, List.set_cons_zero, List.set_cons_succ]
      have H33 := Lib.hid h33
      have HLD := Lib.hid hst.load
      have HQ9 := Lib.hid ((HQ.out.below hbW).hv hz hbt)
      have HBF := Lib.hid (HB9.out.trans ((hbW.mono HB9.out.size).trans (hbt.below (by omega) (Nat.le_trans HB9.out.size hbW.size))))
      clear hst h33 hbW hbt hz
      go_wp2_with fail
      refine ret_cell1 (p := 4) rfl rfl rfl HLD.out ?_
      refine ⟨⟨a33, c33, aq', cq', rs, by rw [HKS.out, ← HNQ.out], by rw [HKS.out]; exact H33.out, HRS.out, HQ9.out⟩, HBF.out⟩
end Go.Proofs.YtllpmepmgnnoaaaGreat
