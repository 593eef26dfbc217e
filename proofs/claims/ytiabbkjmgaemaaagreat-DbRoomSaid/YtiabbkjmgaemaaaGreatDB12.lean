/- What comes of time. -/
import Derived.Test.YtiabbkjmgaemaaaGreatDB0
import Derived.Test.YtiabbkjmgaemaaaGreatDB1
import Derived.Test.YtiabbkjmgaemaaaGreatDB2
import Derived.Test.YtiabbkjmgaemaaaGreatDB3
import Derived.Test.YtiabbkjmgaemaaaGreatDB4
import Derived.Test.YtiabbkjmgaemaaaGreatDB5
import Derived.Test.YtiabbkjmgaemaaaGreatDB6
import Derived.Test.YtiabbkjmgaemaaaGreatDB7
import Derived.Test.YtiabbkjmgaemaaaGreatDB8
import Derived.Test.YtiabbkjmgaemaaaGreatDB9
import Derived.Test.YtiabbkjmgaemaaaGreatDB10
import Derived.Test.YtiabbkjmgaemaaaGreatDB11
import Derived.BigQuiet
namespace Go.Proofs.YtiabbkjmgaemaaaGreat
set_option linter.unusedVariables false
open Go.RowKit

/-- What is known n ticks later (n not below 0). -/
def tkE (ex : Bool) (left n : Int) : Bool := ex && decide (0 < max (left - n) 0)
def tkS (ex : Bool) (left : Int) (s : List Hd) (n : Int) : List Hd := (s.filter fun x => tkE ex left n || decide (n < x.2)).map fun x => (x.1, max (x.2 - n) 0)
theorem vown_set {w : World} {B n size g c : Nat} {e : TypeId} {xs : List Value} (h : w.ownsRow B e size (.slice (some ⟨g, 0, none⟩) n c) n xs) (j : Nat) (v : Value) (hj : j < n * size) :
    (w.setCell ⟨g, j, none⟩ v).ownsRow B e size (.slice (some ⟨g, 0, none⟩) n c) n (xs.set j v) := by
  refine ⟨by rw [List.length_set]; exact h.1, ?_⟩
  rcases h.2 with ⟨h1, _⟩ | ⟨g2, cap, cur, e1, hB, hg, hn, hcap, hsz, htk⟩
  · cases h1
  · simp only [Value.slice.injEq, Option.some.injEq, Addr.mk.injEq] at e1
    obtain ⟨⟨rfl, _, _⟩, _, rfl⟩ := e1
    refine .inr ⟨g, c, cur.setIfInBounds j v, rfl, hB, v_set hg, hn, hcap, by simpa using hsz, ?_⟩
    rw [Array.toList_setIfInBounds, List.take_set, htk]
theorem vown_cell {w : World} {B n size g c : Nat} {e : TypeId} {xs : List Value} (h : w.ownsRow B e size (.slice (some ⟨g, 0, none⟩) n c) n xs) {j : Nat} {u : Value} (hu : xs[j]? = some u) : w.cell? ⟨g, j, none⟩ = some u ∧ w.frozen? ⟨g, j, none⟩ = false := by
  rcases h.2 with ⟨h1, _⟩ | ⟨g2, cap, cur, e1, hB, hg, hn, hcap, hsz, htk⟩
  · cases h1
  · simp only [Value.slice.injEq, Option.some.injEq, Addr.mk.injEq] at e1
    obtain ⟨⟨rfl, _, _⟩, _, rfl⟩ := e1
    have hj : j < n * size := by have := (List.getElem?_eq_some_iff.1 hu).1; rw [h.1] at this; exact this
    rw [← htk, List.getElem?_take_of_lt hj] at hu
    exact ⟨by simp only [World.cell?, hg]; simpa using hu, by simp [World.frozen?, hg]⟩
theorem hv_set (s : List Hd) : ∀ (k : Nat) (x : Hd) (v : Int), s[k]? = some x → (hv s).set (k * 2 + 1) (.int .i64 v) = hv (s.set k (x.1, v)) := by
  induction s with
  | nil => intro k x v h; simp at h
  | cons y r ih =>
    intro k x v h
    have e : ∀ (z : Hd) (q : List Hd), hv (z :: q) = .int .u32 z.1 :: .int .i64 z.2 :: hv q := fun z q => by simp [hv, hcs]
    cases k with
    | zero =>
      simp at h
      subst h
      simp [e]
    | succ k =>
      rw [List.set_cons_succ, e, e, show (k + 1) * 2 + 1 = (k * 2 + 1) + 1 + 1 by omega, List.set_cons_succ, List.set_cons_succ, ih k x v (by simpa using h)]
/-- The row after k rounds. -/
def tkR (t : List Hd) (n : Int) (k : Nat) : List Hd := (t.take k).map (fun x => (x.1, max (x.2 - n) 0)) ++ t.drop k
theorem tkR_at {t : List Hd} {n : Int} {k : Nat} (h : k < t.length) : (tkR t n k)[k]? = t[k]? := by
  unfold tkR
  rw [List.getElem?_append_right (by rw [List.length_map, List.length_take]; omega), List.length_map, List.length_take, show k - min k t.length = 0 by omega, List.getElem?_drop, Nat.add_zero]
theorem tkR_len (t : List Hd) (n : Int) (k : Nat) : (tkR t n k).length = t.length := by
  unfold tkR
  rw [List.length_append, List.length_map, List.length_take, List.length_drop]
  omega
theorem tkR_step {t : List Hd} {n : Int} {k : Nat} {x : Hd} (h : t[k]? = some x) : (tkR t n k).set k (x.1, max (x.2 - n) 0) = tkR t n (k + 1) := by
  have hk := (List.getElem?_eq_some_iff.1 h).1
  unfold tkR
  rw [List.set_append_right _ _ (by rw [List.length_map, List.length_take]; omega), List.length_map, List.length_take, show k - min k t.length = 0 by omega, takeH h, List.map_append, List.append_assoc]
  congr 1
  rw [List.drop_eq_getElem_cons hk]
  simp only [List.set_cons_zero, List.map_cons, List.map_nil, List.cons_append, List.nil_append]
theorem tkS_ad (ex : Bool) (left : Int) (s : List Hd) (n : Int) : ad (tkS ex left s n) = ad (s.filter fun x => tkE ex left n || decide (n < x.2)) := by
  unfold tkS ad
  rw [List.map_map]
  rfl
theorem mkT (w : World) (g : Int) (ex : Bool) (left : Int) (a : Option Addr) (n c : Nat) (t : Int) (W : World)
    (hW : W = ((w.alloc (.cells #[.int .u32 g, .bool ex, .int .i64 left, .slice a n c] 28)).alloc (.cells #[.int .i64 t] 3)).alloc (.cells #[.int .u32 0, .bool false, .int .i64 0, .slice none 0 0] 28)) :
    MV W w.heap.size g ex left a n c ∧ W.heap[w.heap.size + 1]? = some (.cells #[.int .i64 t] 3 (0, 0)) ∧ MV W (w.heap.size + 2) 0 false 0 none 0 0 ∧ Below w.heap.size w W := by
  subst hW
  have e1 : (w.alloc (.cells #[.int .u32 g, .bool ex, .int .i64 left, .slice a n c] 28)).heap.size = w.heap.size + 1 := World.size_alloc _ _
  have e2 : ((w.alloc (.cells #[.int .u32 g, .bool ex, .int .i64 left, .slice a n c] 28)).alloc (.cells #[.int .i64 t] 3)).heap.size = w.heap.size + 2 := by rw [World.size_alloc, e1]
  have v0 := MV.new w g ex left a n c
  have l1 := Go.Deep.blk_alloc_new (w.alloc (.cells #[.int .u32 g, .bool ex, .int .i64 left, .slice a n c] 28)) (.cells #[.int .i64 t] 3)
  rw [e1] at l1
  have v2 := MV.new ((w.alloc (.cells #[.int .u32 g, .bool ex, .int .i64 left, .slice a n c] 28)).alloc (.cells #[.int .i64 t] 3)) 0 false 0 none 0 0
  rw [e2] at v2
  exact ⟨(v0.keep _).keep _, v_blk l1 _, v2, (((Below.refl _ w).alloc (Nat.le_refl _) _).alloc (by rw [e1]; omega) _).alloc (by rw [e2]; omega) _⟩
def tkV (N M g k nn cc : Nat) (x2 t : Int) (W0 : World) : Nat → Value → List Value → World → Prop
  | 0, v, _, _ => v = .pointer (some ⟨N, 3, none⟩)
  | 1, v, _, _ => v = .slice (some ⟨g, 0, none⟩) nn cc
  | 2, v, _, _ => v = .int .i64 (k : Int)
  | 3, v, _, _ => v = .pointer (some ⟨M, 1, none⟩)
  | 4, v, _, _ => v = .int .i64 x2
  | 5, v, _, _ => v = .int .i64 t
  | 6, v, _, _ => v = .int .i64 (max (x2 - t) 0)
  | 7, v, _, _ => v = .pointer (some ⟨g, k * 2, none⟩)
  | 8, v, _, _ => v = .pointer (some ⟨g, k * 2 + 1, none⟩)
  | 9, v, us, w => ∃ W, Below W0.heap.size W0 W ∧ w = W.setCell ⟨g, k * 2 + 1, none⟩ (.int .i64 (max (x2 - t) 0))
  | _, _, _, _ => True
def tkD : Nat → List Nat
  | 1 => [0]
  | 4 => [3]
  | 6 => [4, 5]
  | 7 => [1, 2]
  | 8 => [7]
  | 9 => [8, 6]
  | _ => []
theorem tk_st (N M g k nn cc : Nat) (x2 t : Int) (W0 : World) {i : Nat} {v : Value} {us : List Value} {w w' : World} (h8 : i ≠ 9) (hv : tkV N M g k nn cc x2 t W0 i v us w) : tkV N M g k nn cc x2 t W0 i v us w' := by
  unfold tkV at hv ⊢
  split at hv
  all_goals first
    | exact hv
    | exact absurd rfl h8
set_option maxRecDepth 100000 in
set_option maxHeartbeats 16000000 in
theorem mTick (g : Int) (ex : Bool) (left : Int) (a : Option Addr) (n c : Nat) (s : List Hd) (t0 : Int) (w : World)
    (hx : s.length = n) (hn : n ≤ 100000) (hH : Hs w a s) (hnn : ∀ x ∈ s, 0 ≤ x.2 ∧ x.2 ≤ 1000000) (hl : 0 ≤ left ∧ left ≤ 1000000) (ht : -9223372036854775808 ≤ t0 ∧ t0 ≤ 9223372036854775807) :
    Calls Tryz.prog 69 #[.agg #[.int .u32 g, .bool ex, .int .i64 left, .slice a n c], .int .i64 t0] w fun e w' => OutM w e w' g (tkE ex left (max t0 0)) (max (left - max t0 0) 0) (tkS ex left s (max t0 0)) := by
  have HX := Lib.hid hx
  have HH := Lib.hid hH
  have HNNS := Lib.hid hnn
  have HTM : Hid (0 ≤ max t0 0 ∧ max t0 0 ≤ 9223372036854775807) := Lib.hid (by omega)
  have HLF := Lib.hid hl
  clear hx hH hnn hl ht
  obtain ⟨w3, hw3⟩ : ∃ w3, w3 = ((w.alloc (.cells #[.int .u32 g, .bool ex, .int .i64 left, .slice a n c] 28)).alloc (.cells #[.int .i64 (max t0 0)] 3)).alloc (.cells #[.int .u32 0, .bool false, .int .i64 0, .slice none 0 0] 28) := ⟨_, rfl⟩
  obtain ⟨v0, l1, v2, hB3⟩ := mkT w g ex left a n c (max t0 0) w3 hw3
  have HB3 := Lib.hid hB3
  have V0 := Lib.hid v0
  have L1 := Lib.hid l1
  have V2 := Lib.hid v2
  clear v0 l1 v2 hB3
  go_enter Tryz.func69, Tryz.ntmps69
  go_wp2_with fail
  rw [← hw3]
  clear hw3
  obtain ⟨t, htt⟩ : ∃ t, max t0 0 = t := ⟨_, rfl⟩
  rw [htt] at HTM L1 ⊢
  have HT0 := Lib.hid htt
  clear htt
  refine (mLessT left t w3 (by have := HTM.out; have := HLF.out; omega) (by have := HTM.out; have := HLF.out; omega)).mono ?_
  rintro e w4 ⟨rfl, rfl⟩
  obtain ⟨ll, hll⟩ : ∃ ll, max (left - t) 0 = ll := ⟨_, rfl⟩
  rw [hll]
  have HLL := Lib.hid hll
  clear hll
  obtain ⟨c0, c1, c2, c3, f0, f1, f2, f3⟩ := V0.out.cells
  obtain ⟨e1, he⟩ : ∃ e1, tkE ex left t = e1 := ⟨_, rfl⟩
  have HE : Hid ((ex && decide (0 < ll)) = e1) := Lib.hid (by rw [← he, ← HLL.out]; rfl)
  have HE1 := Lib.hid he
  clear he
  have HFIN : Hid (∀ (e : Ending) (w' : World) (a' : Option Addr) (c' : Nat) (l : List Hd), l = (s.filter fun x => e1 || decide (t < x.2)).map (fun x => (x.1, max (x.2 - t) 0)) → e = .returned (.agg #[.int .u32 g, .bool e1, .int .i64 ll, .slice a' l.length c']) → HT w' a' l → Below w.heap.size w w' → OutM w e w' g (tkE ex left (max t0 0)) (max (left - max t0 0) 0) (tkS ex left s (max t0 0))) := Lib.hid (by
    intro e w' a' c' l hl he hh hb
    rw [HT0.out]
    have h1 : tkS ex left s t = l := by rw [hl]; unfold tkS; rw [HE1.out]
    rw [h1, HE1.out, HLL.out]
    exact ⟨⟨a', c', he, hh⟩, hb⟩)
  cases ex
  · obtain rfl : false = e1 := by simpa using HE.out
    go_wp2_with fail
    have BS := (But1.set w4 w.heap.size 2 (.int .i64 ll)).trans (But1.set _ w.heap.size 1 (.bool false))
    have VS := Lib.hid ((V0.out.set2 ll).set1 false)
    have V2S := Lib.hid (V2.out.but BS (by omega))
    have L1S : Hid (((w4.setCell ⟨w.heap.size, 2, none⟩ (.int .i64 ll)).setCell ⟨w.heap.size, 1, none⟩ (.bool false)).heap[w.heap.size + 1]? = some (.cells #[.int .i64 t] 3 (0, 0))) := Lib.hid ((BS.block _ (Array.getElem?_eq_some_iff.1 L1.out).1 (by omega)).trans L1.out)
    have HBS := Lib.hid (HB3.out.trans (BS.below (Nat.le_refl _) HB3.out.size))
    clear c0 c1 c2 c3 f0 f1 f2 f3 BS V0 V2 L1 HB3
    generalize (w4.setCell ⟨w.heap.size, 2, none⟩ (.int .i64 ll)).setCell ⟨w.heap.size, 1, none⟩ (.bool false) = w5 at *
    refine (mThoseT (.pointer (some ⟨w.heap.size, 0, none⟩)) (.pointer (some ⟨w.heap.size + 1, 0, none⟩)) (fun x => false || decide (t < x.2)) a n c s w5 HX.out hn (HH.out.below HBS.out) (fun w1 x hb _ => cTick w.heap.size (w.heap.size + 1) false t x w1 (VS.out.below hb VS.out.lt).cells.2.1 (by have := (hb.block _ (Array.getElem?_eq_some_iff.1 L1S.out).1).trans L1S.out; simp [World.cell?, this]))).mono ?_
    rintro e w6 ⟨⟨a6, c6, rfl, ho6⟩, hb6⟩
    have V06 := Lib.hid (VS.out.below hb6 VS.out.lt)
    have V26 := Lib.hid (V2S.out.below hb6 V2S.out.lt)
    have L16 : Hid (w6.heap[w.heap.size + 1]? = some (.cells #[.int .i64 t] 3 (0, 0))) := Lib.hid ((hb6.block _ (Array.getElem?_eq_some_iff.1 L1S.out).1).trans L1S.out)
    have HB6 := Lib.hid (HBS.out.trans (hb6.mono HBS.out.size))
    have HO6 := Lib.hid (vown_le ho6 (B' := w.heap.size + 3) (by have := V2S.out.lt; omega))
    have HZ6 : Hid (w.heap.size + 3 ≤ w6.heap.size) := Lib.hid (by have := V26.out.lt; omega)
    have HIF : Hid (InS (s.filter fun x => false || decide (t < x.2))) := Lib.hid (ins_filter _ HH.out.2)
    have HBDS : Hid (∀ x ∈ s.filter (fun x => false || decide (t < x.2)), 0 ≤ x.2 ∧ x.2 ≤ 1000000) := Lib.hid (fun x hx => HNNS.out x (List.mem_filter.1 hx).1)
    have hfl : (s.filter fun x => false || decide (t < x.2)).length ≤ 100000 := Nat.le_trans (List.length_filter_le _ _) (by rw [HX.out]; exact hn)
    clear ho6 hb6 VS V2S L1S HBS
    obtain ⟨ft, hft⟩ : ∃ ft, s.filter (fun x => false || decide (t < x.2)) = ft := ⟨_, rfl⟩
    rw [hft] at HO6 HIF HBDS hfl ⊢
    have HFT := Lib.hid hft
    clear hft
    obtain ⟨nn, hnn⟩ : ∃ nn, ft.length = nn := ⟨_, rfl⟩
    rw [hnn] at HO6 hfl ⊢
    have HNN := Lib.hid hnn
    clear hnn
    obtain ⟨c0, c1, c2, c3, f0, f1, f2, f3⟩ := V06.out.cells
    go_wp2
    have BS := But1.set w6 w.heap.size 3 (.slice a6 nn c6)
    have VS := Lib.hid (V06.out.set3 a6 nn c6)
    have V2S := Lib.hid (V26.out.but BS (by omega))
    have OS := Lib.hid (vown_but HO6.out BS (by omega))
    have L1S : Hid ((w6.setCell ⟨w.heap.size, 3, none⟩ (.slice a6 nn c6)).heap[w.heap.size + 1]? = some (.cells #[.int .i64 t] 3 (0, 0))) := Lib.hid ((BS.block _ (Array.getElem?_eq_some_iff.1 L16.out).1 (by omega)).trans L16.out)
    have HBS := Lib.hid (HB6.out.trans (BS.below (Nat.le_refl _) HB6.out.size))
    have HZS : Hid (w.heap.size + 3 ≤ (w6.setCell ⟨w.heap.size, 3, none⟩ (.slice a6 nn c6)).heap.size) := Lib.hid (Nat.le_trans HZ6.out BS.size)
    clear c0 c1 c2 c3 f0 f1 f2 f3 BS V06 V26 L16 HB6 HO6 HZ6
    generalize w6.setCell ⟨w.heap.size, 3, none⟩ (.slice a6 nn c6) = w7 at *
    go_loopw [30] (fun v30 wr => ∃ k : Nat, v30 = .int .i64 (k : Int) ∧ k ≤ nn ∧ wr.ownsRow (w.heap.size + 3) 86 2 (.slice a6 nn c6) nn (hv (tkR ft t k)) ∧ MV wr w.heap.size g false ll a6 nn c6 ∧ wr.heap[w.heap.size + 1]? = some (.cells #[.int .i64 t] 3 (0, 0)) ∧
      MV wr (w.heap.size + 2) 0 false 0 none 0 0 ∧ Below w.heap.size w wr ∧ w.heap.size + 3 ≤ wr.heap.size) (fun v _ => nn - (intOf v).toNat)
    case atStart => exact ⟨0, rfl, by omega, by simpa [tkR] using OS.out, VS.out, L1S.out, V2S.out, HBS.out, HZS.out⟩
    case round =>
      clear OS VS L1S V2S HBS HZS
      obtain ⟨k, rfl, hk, ho, hv0, hl1, hv2, hB, hZ⟩ := hrel
      have HO := Lib.hid ho
      have V0 := Lib.hid hv0
      have L1 := Lib.hid hl1
      have V2 := Lib.hid hv2
      have HB := Lib.hid hB
      have HZ := Lib.hid hZ
      clear ho hv0 hl1 hv2 hB hZ
      by_cases hlt : k < nn
      · obtain ⟨g', rfl, hgB, hgc, -⟩ := kown_at HO.out (by omega)
        obtain ⟨⟨x1, x2⟩, hfk⟩ : ∃ x, ft[k]? = some x := ⟨_, List.getElem?_eq_getElem (by rw [HNN.out]; exact hlt)⟩
        have hrk : (tkR ft t k)[k]? = some (x1, x2) := by rw [tkR_at (by rw [HNN.out]; exact hlt)]; exact hfk
        have u0 := hv_at _ k _ hrk 0 (by omega)
        have u1 := hv_at _ k _ hrk 1 (by omega)
        simp only [hcs] at u0 u1
        have RC0 := vown_cell HO.out (j := k * 2 + 0) (u := .int .u32 x1) (by simpa using u0)
        have RC1 := vown_cell HO.out (j := k * 2 + 1) (u := .int .i64 x2) (by simpa using u1)
        have HBD := Lib.hid (HBDS.out (x1, x2) (List.mem_of_getElem? hfk))
        have HFK := Lib.hid hfk
        have HGB := Lib.hid hgB
        have d0 : wr.cell? ⟨g', k * 2, none⟩ = some (.int .u32 x1) := RC0.1
        have d1 : wr.cell? ⟨g', k * 2 + 1, none⟩ = some (.int .i64 x2) := RC1.1
        have hkz : (k : Int) < (nn : Int) := by omega
        clear hrk u0 u1 RC0 hfk hgB
        go_wp2
        have hbq := bel1 wr (.cells #[.int .u32 x1, .int .i64 x2] 86)
        have E1 := Lib.hid (held_new wr (.int .u32 x1) (.int .i64 x2)).2
        have OQ := Lib.hid (HO.out.alloc (.cells #[.int .u32 x1, .int .i64 x2] 86))
        have VQ := Lib.hid (V0.out.below hbq V0.out.lt)
        have V2Q := Lib.hid (V2.out.below hbq V2.out.lt)
        have NB : Hid ((wr.alloc (.cells #[.int .u32 x1, .int .i64 x2] 86)).heap[w.heap.size + 1]? = some (.cells #[.int .i64 t] 3 (0, 0))) := Lib.hid (v_blk L1.out _)
        have NQ : Hid ((wr.alloc (.cells #[.int .u32 x1, .int .i64 x2] 86)).cell? ⟨w.heap.size + 1, 0, none⟩ = some (.int .i64 t)) := Lib.hid (by have := NB.out; simp only [World.cell?, this]; rfl)
        have HBQ := Lib.hid (HB.out.trans (hbq.mono HB.out.size))
        have HQZ : Hid (wr.heap.size < (wr.alloc (.cells #[.int .u32 x1, .int .i64 x2] 86)).heap.size) := Lib.hid (by rw [World.size_alloc]; omega)
        have RC : Hid ((wr.alloc (.cells #[.int .u32 x1, .int .i64 x2] 86)).cell? ⟨g', k * 2 + 1, none⟩ = some (.int .i64 x2) ∧ (wr.alloc (.cells #[.int .u32 x1, .int .i64 x2] 86)).frozen? ⟨g', k * 2 + 1, none⟩ = false) := Lib.hid ⟨(hbq.cell (cell_lt RC1.1)).trans RC1.1, (hbq.frozen (p := ⟨g', k * 2 + 1, none⟩) (cell_lt RC1.1)).trans RC1.2⟩
        clear hbq RC1 d0 d1
        generalize wr.alloc (.cells #[.int .u32 x1, .int .i64 x2] 86) = wq at *
        refine wp_region_last (tkV w.heap.size wr.heap.size g' k nn c6 x2 t wq) (fun W => Below wq.heap.size wq W) (fun _ A B => Below A.heap.size A B) tkD [35, 36, 37, 38, 39, 40, 41, 42, 43] (by kernel_rfl) (by kernel_rfl) (by kernel_rfl) (by kernel_rfl) (by kernel_rfl) (by decide) (Below.refl _ wq).drew
          (fun i j oi oj v us A B hoi hoj hij hni hw hSA hr hv => tk_st _ _ _ _ _ _ _ _ _ (fun e => hni (by subst e; rfl)) hv)
          ⟨?_, ?_, ?_, ?_, ?_, ?_, ?_, ?_, ?_, ?_, trivial⟩ ?hend
        case refine_1 =>
          intro a' w9 hS h0 hd
          have e2 : a'.tmps[2]?.getD undef = .pointer (some ⟨w.heap.size, 0, none⟩) := vev (h0 2 (by kernel_rfl))
          refine Does2.value (.pointer (some ⟨w.heap.size, 3, none⟩)) (w' := w9) ?_ ⟨rfl, fun _ => ⟨hS, Below.refl _ _⟩⟩
          clear hS h0 hd
          go_simp
        case refine_2 =>
          intro a' w9 hS h0 hd
          have e35 : a'.tmps[35]?.getD undef = .pointer (some ⟨w.heap.size, 3, none⟩) := vev (hd 0 List.mem_cons_self)
          obtain ⟨c0, c1, c2, c3, f0, f1, f2, f3⟩ := (VQ.out.below hS VQ.out.lt).cells
          refine Does2.value (.slice (some ⟨g', 0, none⟩) nn c6) (w' := w9) ?_ ⟨rfl, fun _ => ⟨hS, Below.refl _ _⟩⟩
          clear hS h0 hd
          go_simp
        case refine_3 =>
          intro a' w9 hS h0 hd
          have e5 : a'.tmps[5]?.getD undef = .int .i64 (k : Int) := vev (h0 5 (by kernel_rfl))
          refine Does2.value (.int .i64 (k : Int)) (w' := w9) ?_ ⟨rfl, fun _ => ⟨hS, Below.refl _ _⟩⟩
          clear hS h0 hd
          go_simp
        case refine_4 =>
          intro a' w9 hS h0 hd
          have e6 : a'.tmps[6]?.getD undef = .pointer (some ⟨wr.heap.size, 0, none⟩) := vev (h0 6 (by kernel_rfl))
          refine Does2.value (.pointer (some ⟨wr.heap.size, 1, none⟩)) (w' := w9) ?_ ⟨rfl, fun _ => ⟨hS, Below.refl _ _⟩⟩
          clear hS h0 hd
          go_simp
        case refine_5 =>
          intro a' w9 hS h0 hd
          have e38 : a'.tmps[38]?.getD undef = .pointer (some ⟨wr.heap.size, 1, none⟩) := vev (hd 3 List.mem_cons_self)
          have c0 := (hS.cell (cell_lt E1.out)).trans E1.out
          refine Does2.value (.int .i64 x2) (w' := w9) ?_ ⟨rfl, fun _ => ⟨hS, Below.refl _ _⟩⟩
          clear hS h0 hd
          go_simp
        case refine_6 =>
          intro a' w9 hS h0 hd
          have e3 : a'.tmps[3]?.getD undef = .pointer (some ⟨w.heap.size + 1, 0, none⟩) := vev (h0 3 (by kernel_rfl))
          have c0 := (hS.cell (cell_lt NQ.out)).trans NQ.out
          refine Does2.value (.int .i64 t) (w' := w9) ?_ ⟨rfl, fun _ => ⟨hS, Below.refl _ _⟩⟩
          clear hS h0 hd
          go_simp
        case refine_7 =>
          intro a' w9 hS h0 hd
          have e39 : a'.tmps[39]?.getD undef = .int .i64 x2 := vev (hd 4 List.mem_cons_self)
          have e40 : a'.tmps[40]?.getD undef = .int .i64 t := vev (hd 5 (List.mem_cons_of_mem _ List.mem_cons_self))
          refine Does2.call 106 #[.int .i64 x2, .int .i64 t] (w' := w9) ?_ ((mLessT x2 t w9 (by have := HBD.out; have := HTM.out; omega) (by have := HBD.out; have := HTM.out; omega)).mono ?_)
          · clear hS h0 hd
            go_simp
          · rintro e w8 ⟨rfl, rfl⟩
            exact ⟨_, rfl, rfl, fun _ => ⟨hS, Below.refl _ _⟩⟩
        case refine_8 =>
          intro a' w9 hS h0 hd
          have e36 : a'.tmps[36]?.getD undef = .slice (some ⟨g', 0, none⟩) nn c6 := vev (hd 1 List.mem_cons_self)
          have e37 : a'.tmps[37]?.getD undef = .int .i64 (k : Int) := vev (hd 2 (List.mem_cons_of_mem _ List.mem_cons_self))
          refine Does2.value (.pointer (some ⟨g', k * 2, none⟩)) (w' := w9) ?_ ⟨rfl, fun _ => ⟨hS, Below.refl _ _⟩⟩
          clear hS h0 hd
          go_simp
        case refine_9 =>
          intro a' w9 hS h0 hd
          have e42 : a'.tmps[42]?.getD undef = .pointer (some ⟨g', k * 2, none⟩) := vev (hd 7 List.mem_cons_self)
          refine Does2.value (.pointer (some ⟨g', k * 2 + 1, none⟩)) (w' := w9) ?_ ⟨rfl, fun _ => ⟨hS, Below.refl _ _⟩⟩
          clear hS h0 hd
          go_simp
        case refine_10 =>
          intro a' w9 hS h0 hd
          have e43 : a'.tmps[43]?.getD undef = .pointer (some ⟨g', k * 2 + 1, none⟩) := vev (hd 8 List.mem_cons_self)
          have e41 : a'.tmps[41]?.getD undef = .int .i64 (max (x2 - t) 0) := vev (hd 6 (List.mem_cons_of_mem _ List.mem_cons_self))
          have q0 := (hS.cell (cell_lt RC.out.1)).trans RC.out.1
          have q1 := (hS.frozen (p := ⟨g', k * 2 + 1, none⟩) (cell_lt RC.out.1)).trans RC.out.2
          refine Does2.skip (w' := w9.setCell ⟨g', k * 2 + 1, none⟩ (.int .i64 (max (x2 - t) 0))) ?_ ⟨⟨w9, hS, rfl⟩, fun h => absurd rfl h⟩
          clear hS h0 hd
          go_simp
        case hend =>
          intro f w9 hv
          obtain ⟨W, hbW, rfl⟩ := hv
          simp only [putAll, Act.put, List.setIfInBounds_toArray, List.set_cons_zero, List.set_cons_succ]
          have HBW := Lib.hid hbW
          clear hbW
          go_wp2
          go_roundw
          case rel =>
            have hgr : w.heap.size + 3 ≤ g' := HGB.out
            have BS := But1.set W g' (k * 2 + 1) (.int .i64 (max (x2 - t) 0))
            have hWz := HBW.out.size
            have hq := HQZ.out
            refine ⟨k + 1, by go_num, by omega, ?_, (VQ.out.below HBW.out VQ.out.lt).but BS (by omega), ?_, (V2Q.out.below HBW.out V2Q.out.lt).but BS (by omega), HBQ.out.trans ((HBW.out.mono HBQ.out.size).trans (BS.below (by omega) (Nat.le_trans HBQ.out.size hWz))), by have := HZ.out; have := BS.size; omega⟩
            · have h1 := vown_set (own_grown OQ.out HBW.out (Nat.le_refl _)) (k * 2 + 1) (.int .i64 (max (x2 - t) 0)) (by omega)
              rw [hv_set _ k (x1, x2) _ (by rw [tkR_at (by rw [HNN.out]; exact hlt)]; exact HFK.out), tkR_step HFK.out] at h1
              exact h1
            · exact (BS.block _ (by have := VQ.out.lt; have := V2Q.out.lt; omega) (by omega)).trans ((HBW.out.block _ (by have := V2Q.out.lt; omega)).trans NB.out)
          case measure => simp [intOf]; omega
      · obtain rfl : k = nn := by omega
        have e1 : tkR ft t k = ft.map fun x => (x.1, max (x.2 - t) 0) := by unfold tkR; rw [List.take_of_length_le (by rw [HNN.out]; exact Nat.le_refl _), List.drop_of_length_le (by rw [HNN.out]; exact Nat.le_refl _), List.append_nil]
        have HO' := HO.out
        rw [e1] at HO'
        have HL2 : Hid ((ft.map fun x : Hd => (x.1, max (x.2 - t) 0)).length = k) := Lib.hid (by rw [List.length_map]; exact HNN.out)
        have HTT := Lib.hid (own_ht HO' HL2.out (fun x hx => by
          obtain ⟨y, hy, rfl⟩ := List.mem_map.1 hx
          have h1 := HIF.out y hy
          have h2 := HBDS.out y hy
          have h3 := HTM.out
          exact ⟨h1.1, by simp only; omega, by simp only; omega⟩))
        clear HO HO' e1
        obtain ⟨c0, c1, c2, c3, f0, f1, f2, f3⟩ := V0.out.cells
        obtain ⟨z0, z1, z2, z3, t0', t1, t2, t3⟩ := V2.out.cells
        go_wp2_with fail
        refine ret_cell1 (p := 4) rfl rfl rfl (V2.out.store g false ll a6 k c6).load ?_
        have BS := V2.out.store_but g false ll a6 k c6
        exact HFIN.out _ _ a6 c6 _ (by rw [HFT.out]) (by rw [HL2.out]) (HTT.out.other V2.out.noH BS) (HB.out.trans (BS.below (by omega) HB.out.size))
  · by_cases hp : 0 < ll
    · obtain rfl : true = e1 := by have := HE.out; simpa [hp] using this
      have HPP := Lib.hid hp
      go_wp2_with fail
      have BS := (But1.set w4 w.heap.size 2 (.int .i64 ll)).trans (But1.set _ w.heap.size 1 (.bool true))
      have VS := Lib.hid ((V0.out.set2 ll).set1 true)
      have V2S := Lib.hid (V2.out.but BS (by omega))
      have L1S : Hid (((w4.setCell ⟨w.heap.size, 2, none⟩ (.int .i64 ll)).setCell ⟨w.heap.size, 1, none⟩ (.bool true)).heap[w.heap.size + 1]? = some (.cells #[.int .i64 t] 3 (0, 0))) := Lib.hid ((BS.block _ (Array.getElem?_eq_some_iff.1 L1.out).1 (by omega)).trans L1.out)
      have HBS := Lib.hid (HB3.out.trans (BS.below (Nat.le_refl _) HB3.out.size))
      clear c0 c1 c2 c3 f0 f1 f2 f3 BS V0 V2 L1 HB3
      generalize (w4.setCell ⟨w.heap.size, 2, none⟩ (.int .i64 ll)).setCell ⟨w.heap.size, 1, none⟩ (.bool true) = w5 at *
      refine (mThoseT (.pointer (some ⟨w.heap.size, 0, none⟩)) (.pointer (some ⟨w.heap.size + 1, 0, none⟩)) (fun x => true || decide (t < x.2)) a n c s w5 HX.out hn (HH.out.below HBS.out) (fun w1 x hb _ => cTick w.heap.size (w.heap.size + 1) true t x w1 (VS.out.below hb VS.out.lt).cells.2.1 (by have := (hb.block _ (Array.getElem?_eq_some_iff.1 L1S.out).1).trans L1S.out; simp [World.cell?, this]))).mono ?_
      rintro e w6 ⟨⟨a6, c6, rfl, ho6⟩, hb6⟩
      have V06 := Lib.hid (VS.out.below hb6 VS.out.lt)
      have V26 := Lib.hid (V2S.out.below hb6 V2S.out.lt)
      have L16 : Hid (w6.heap[w.heap.size + 1]? = some (.cells #[.int .i64 t] 3 (0, 0))) := Lib.hid ((hb6.block _ (Array.getElem?_eq_some_iff.1 L1S.out).1).trans L1S.out)
      have HB6 := Lib.hid (HBS.out.trans (hb6.mono HBS.out.size))
      have HO6 := Lib.hid (vown_le ho6 (B' := w.heap.size + 3) (by have := V2S.out.lt; omega))
      have HZ6 : Hid (w.heap.size + 3 ≤ w6.heap.size) := Lib.hid (by have := V26.out.lt; omega)
      have HIF : Hid (InS (s.filter fun x => true || decide (t < x.2))) := Lib.hid (ins_filter _ HH.out.2)
      have HBDS : Hid (∀ x ∈ s.filter (fun x => true || decide (t < x.2)), 0 ≤ x.2 ∧ x.2 ≤ 1000000) := Lib.hid (fun x hx => HNNS.out x (List.mem_filter.1 hx).1)
      have hfl : (s.filter fun x => true || decide (t < x.2)).length ≤ 100000 := Nat.le_trans (List.length_filter_le _ _) (by rw [HX.out]; exact hn)
      clear ho6 hb6 VS V2S L1S HBS
      obtain ⟨ft, hft⟩ : ∃ ft, s.filter (fun x => true || decide (t < x.2)) = ft := ⟨_, rfl⟩
      rw [hft] at HO6 HIF HBDS hfl ⊢
      have HFT := Lib.hid hft
      clear hft
      obtain ⟨nn, hnn⟩ : ∃ nn, ft.length = nn := ⟨_, rfl⟩
      rw [hnn] at HO6 hfl ⊢
      have HNN := Lib.hid hnn
      clear hnn
      obtain ⟨c0, c1, c2, c3, f0, f1, f2, f3⟩ := V06.out.cells
      go_wp2
      have BS := But1.set w6 w.heap.size 3 (.slice a6 nn c6)
      have VS := Lib.hid (V06.out.set3 a6 nn c6)
      have V2S := Lib.hid (V26.out.but BS (by omega))
      have OS := Lib.hid (vown_but HO6.out BS (by omega))
      have L1S : Hid ((w6.setCell ⟨w.heap.size, 3, none⟩ (.slice a6 nn c6)).heap[w.heap.size + 1]? = some (.cells #[.int .i64 t] 3 (0, 0))) := Lib.hid ((BS.block _ (Array.getElem?_eq_some_iff.1 L16.out).1 (by omega)).trans L16.out)
      have HBS := Lib.hid (HB6.out.trans (BS.below (Nat.le_refl _) HB6.out.size))
      have HZS : Hid (w.heap.size + 3 ≤ (w6.setCell ⟨w.heap.size, 3, none⟩ (.slice a6 nn c6)).heap.size) := Lib.hid (Nat.le_trans HZ6.out BS.size)
      clear c0 c1 c2 c3 f0 f1 f2 f3 BS V06 V26 L16 HB6 HO6 HZ6
      generalize w6.setCell ⟨w.heap.size, 3, none⟩ (.slice a6 nn c6) = w7 at *
      go_loopw [30] (fun v30 wr => ∃ k : Nat, v30 = .int .i64 (k : Int) ∧ k ≤ nn ∧ wr.ownsRow (w.heap.size + 3) 86 2 (.slice a6 nn c6) nn (hv (tkR ft t k)) ∧ MV wr w.heap.size g true ll a6 nn c6 ∧ wr.heap[w.heap.size + 1]? = some (.cells #[.int .i64 t] 3 (0, 0)) ∧
        MV wr (w.heap.size + 2) 0 false 0 none 0 0 ∧ Below w.heap.size w wr ∧ w.heap.size + 3 ≤ wr.heap.size) (fun v _ => nn - (intOf v).toNat)
      case atStart => exact ⟨0, rfl, by omega, by simpa [tkR] using OS.out, VS.out, L1S.out, V2S.out, HBS.out, HZS.out⟩
      case round =>
        clear OS VS L1S V2S HBS HZS
        obtain ⟨k, rfl, hk, ho, hv0, hl1, hv2, hB, hZ⟩ := hrel
        have HO := Lib.hid ho
        have V0 := Lib.hid hv0
        have L1 := Lib.hid hl1
        have V2 := Lib.hid hv2
        have HB := Lib.hid hB
        have HZ := Lib.hid hZ
        clear ho hv0 hl1 hv2 hB hZ
        by_cases hlt : k < nn
        · obtain ⟨g', rfl, hgB, hgc, -⟩ := kown_at HO.out (by omega)
          obtain ⟨⟨x1, x2⟩, hfk⟩ : ∃ x, ft[k]? = some x := ⟨_, List.getElem?_eq_getElem (by rw [HNN.out]; exact hlt)⟩
          have hrk : (tkR ft t k)[k]? = some (x1, x2) := by rw [tkR_at (by rw [HNN.out]; exact hlt)]; exact hfk
          have u0 := hv_at _ k _ hrk 0 (by omega)
          have u1 := hv_at _ k _ hrk 1 (by omega)
          simp only [hcs] at u0 u1
          have RC0 := vown_cell HO.out (j := k * 2 + 0) (u := .int .u32 x1) (by simpa using u0)
          have RC1 := vown_cell HO.out (j := k * 2 + 1) (u := .int .i64 x2) (by simpa using u1)
          have HBD := Lib.hid (HBDS.out (x1, x2) (List.mem_of_getElem? hfk))
          have HFK := Lib.hid hfk
          have HGB := Lib.hid hgB
          have d0 : wr.cell? ⟨g', k * 2, none⟩ = some (.int .u32 x1) := RC0.1
          have d1 : wr.cell? ⟨g', k * 2 + 1, none⟩ = some (.int .i64 x2) := RC1.1
          have hkz : (k : Int) < (nn : Int) := by omega
          clear hrk u0 u1 RC0 hfk hgB
          go_wp2
          have hbq := bel1 wr (.cells #[.int .u32 x1, .int .i64 x2] 86)
          have E1 := Lib.hid (held_new wr (.int .u32 x1) (.int .i64 x2)).2
          have OQ := Lib.hid (HO.out.alloc (.cells #[.int .u32 x1, .int .i64 x2] 86))
          have VQ := Lib.hid (V0.out.below hbq V0.out.lt)
          have V2Q := Lib.hid (V2.out.below hbq V2.out.lt)
          have NB : Hid ((wr.alloc (.cells #[.int .u32 x1, .int .i64 x2] 86)).heap[w.heap.size + 1]? = some (.cells #[.int .i64 t] 3 (0, 0))) := Lib.hid (v_blk L1.out _)
          have NQ : Hid ((wr.alloc (.cells #[.int .u32 x1, .int .i64 x2] 86)).cell? ⟨w.heap.size + 1, 0, none⟩ = some (.int .i64 t)) := Lib.hid (by have := NB.out; simp only [World.cell?, this]; rfl)
          have HBQ := Lib.hid (HB.out.trans (hbq.mono HB.out.size))
          have HQZ : Hid (wr.heap.size < (wr.alloc (.cells #[.int .u32 x1, .int .i64 x2] 86)).heap.size) := Lib.hid (by rw [World.size_alloc]; omega)
          have RC : Hid ((wr.alloc (.cells #[.int .u32 x1, .int .i64 x2] 86)).cell? ⟨g', k * 2 + 1, none⟩ = some (.int .i64 x2) ∧ (wr.alloc (.cells #[.int .u32 x1, .int .i64 x2] 86)).frozen? ⟨g', k * 2 + 1, none⟩ = false) := Lib.hid ⟨(hbq.cell (cell_lt RC1.1)).trans RC1.1, (hbq.frozen (p := ⟨g', k * 2 + 1, none⟩) (cell_lt RC1.1)).trans RC1.2⟩
          clear hbq RC1 d0 d1
          generalize wr.alloc (.cells #[.int .u32 x1, .int .i64 x2] 86) = wq at *
          refine wp_region_last (tkV w.heap.size wr.heap.size g' k nn c6 x2 t wq) (fun W => Below wq.heap.size wq W) (fun _ A B => Below A.heap.size A B) tkD [35, 36, 37, 38, 39, 40, 41, 42, 43] (by kernel_rfl) (by kernel_rfl) (by kernel_rfl) (by kernel_rfl) (by kernel_rfl) (by decide) (Below.refl _ wq).drew
            (fun i j oi oj v us A B hoi hoj hij hni hw hSA hr hv => tk_st _ _ _ _ _ _ _ _ _ (fun e => hni (by subst e; rfl)) hv)
            ⟨?_, ?_, ?_, ?_, ?_, ?_, ?_, ?_, ?_, ?_, trivial⟩ ?hend
          case refine_1 =>
            intro a' w9 hS h0 hd
            have e2 : a'.tmps[2]?.getD undef = .pointer (some ⟨w.heap.size, 0, none⟩) := vev (h0 2 (by kernel_rfl))
            refine Does2.value (.pointer (some ⟨w.heap.size, 3, none⟩)) (w' := w9) ?_ ⟨rfl, fun _ => ⟨hS, Below.refl _ _⟩⟩
            clear hS h0 hd
            go_simp
          case refine_2 =>
            intro a' w9 hS h0 hd
            have e35 : a'.tmps[35]?.getD undef = .pointer (some ⟨w.heap.size, 3, none⟩) := vev (hd 0 List.mem_cons_self)
            obtain ⟨c0, c1, c2, c3, f0, f1, f2, f3⟩ := (VQ.out.below hS VQ.out.lt).cells
            refine Does2.value (.slice (some ⟨g', 0, none⟩) nn c6) (w' := w9) ?_ ⟨rfl, fun _ => ⟨hS, Below.refl _ _⟩⟩
            clear hS h0 hd
            go_simp
          case refine_3 =>
            intro a' w9 hS h0 hd
            have e5 : a'.tmps[5]?.getD undef = .int .i64 (k : Int) := vev (h0 5 (by kernel_rfl))
            refine Does2.value (.int .i64 (k : Int)) (w' := w9) ?_ ⟨rfl, fun _ => ⟨hS, Below.refl _ _⟩⟩
            clear hS h0 hd
            go_simp
          case refine_4 =>
            intro a' w9 hS h0 hd
            have e6 : a'.tmps[6]?.getD undef = .pointer (some ⟨wr.heap.size, 0, none⟩) := vev (h0 6 (by kernel_rfl))
            refine Does2.value (.pointer (some ⟨wr.heap.size, 1, none⟩)) (w' := w9) ?_ ⟨rfl, fun _ => ⟨hS, Below.refl _ _⟩⟩
            clear hS h0 hd
            go_simp
          case refine_5 =>
            intro a' w9 hS h0 hd
            have e38 : a'.tmps[38]?.getD undef = .pointer (some ⟨wr.heap.size, 1, none⟩) := vev (hd 3 List.mem_cons_self)
            have c0 := (hS.cell (cell_lt E1.out)).trans E1.out
            refine Does2.value (.int .i64 x2) (w' := w9) ?_ ⟨rfl, fun _ => ⟨hS, Below.refl _ _⟩⟩
            clear hS h0 hd
            go_simp
          case refine_6 =>
            intro a' w9 hS h0 hd
            have e3 : a'.tmps[3]?.getD undef = .pointer (some ⟨w.heap.size + 1, 0, none⟩) := vev (h0 3 (by kernel_rfl))
            have c0 := (hS.cell (cell_lt NQ.out)).trans NQ.out
            refine Does2.value (.int .i64 t) (w' := w9) ?_ ⟨rfl, fun _ => ⟨hS, Below.refl _ _⟩⟩
            clear hS h0 hd
            go_simp
          case refine_7 =>
            intro a' w9 hS h0 hd
            have e39 : a'.tmps[39]?.getD undef = .int .i64 x2 := vev (hd 4 List.mem_cons_self)
            have e40 : a'.tmps[40]?.getD undef = .int .i64 t := vev (hd 5 (List.mem_cons_of_mem _ List.mem_cons_self))
            refine Does2.call 106 #[.int .i64 x2, .int .i64 t] (w' := w9) ?_ ((mLessT x2 t w9 (by have := HBD.out; have := HTM.out; omega) (by have := HBD.out; have := HTM.out; omega)).mono ?_)
            · clear hS h0 hd
              go_simp
            · rintro e w8 ⟨rfl, rfl⟩
              exact ⟨_, rfl, rfl, fun _ => ⟨hS, Below.refl _ _⟩⟩
          case refine_8 =>
            intro a' w9 hS h0 hd
            have e36 : a'.tmps[36]?.getD undef = .slice (some ⟨g', 0, none⟩) nn c6 := vev (hd 1 List.mem_cons_self)
            have e37 : a'.tmps[37]?.getD undef = .int .i64 (k : Int) := vev (hd 2 (List.mem_cons_of_mem _ List.mem_cons_self))
            refine Does2.value (.pointer (some ⟨g', k * 2, none⟩)) (w' := w9) ?_ ⟨rfl, fun _ => ⟨hS, Below.refl _ _⟩⟩
            clear hS h0 hd
            go_simp
          case refine_9 =>
            intro a' w9 hS h0 hd
            have e42 : a'.tmps[42]?.getD undef = .pointer (some ⟨g', k * 2, none⟩) := vev (hd 7 List.mem_cons_self)
            refine Does2.value (.pointer (some ⟨g', k * 2 + 1, none⟩)) (w' := w9) ?_ ⟨rfl, fun _ => ⟨hS, Below.refl _ _⟩⟩
            clear hS h0 hd
            go_simp
          case refine_10 =>
            intro a' w9 hS h0 hd
            have e43 : a'.tmps[43]?.getD undef = .pointer (some ⟨g', k * 2 + 1, none⟩) := vev (hd 8 List.mem_cons_self)
            have e41 : a'.tmps[41]?.getD undef = .int .i64 (max (x2 - t) 0) := vev (hd 6 (List.mem_cons_of_mem _ List.mem_cons_self))
            have q0 := (hS.cell (cell_lt RC.out.1)).trans RC.out.1
            have q1 := (hS.frozen (p := ⟨g', k * 2 + 1, none⟩) (cell_lt RC.out.1)).trans RC.out.2
            refine Does2.skip (w' := w9.setCell ⟨g', k * 2 + 1, none⟩ (.int .i64 (max (x2 - t) 0))) ?_ ⟨⟨w9, hS, rfl⟩, fun h => absurd rfl h⟩
            clear hS h0 hd
            go_simp
          case hend =>
            intro f w9 hv
            obtain ⟨W, hbW, rfl⟩ := hv
            simp only [putAll, Act.put, List.setIfInBounds_toArray, List.set_cons_zero, List.set_cons_succ]
            have HBW := Lib.hid hbW
            clear hbW
            go_wp2
            go_roundw
            case rel =>
              have hgr : w.heap.size + 3 ≤ g' := HGB.out
              have BS := But1.set W g' (k * 2 + 1) (.int .i64 (max (x2 - t) 0))
              have hWz := HBW.out.size
              have hq := HQZ.out
              refine ⟨k + 1, by go_num, by omega, ?_, (VQ.out.below HBW.out VQ.out.lt).but BS (by omega), ?_, (V2Q.out.below HBW.out V2Q.out.lt).but BS (by omega), HBQ.out.trans ((HBW.out.mono HBQ.out.size).trans (BS.below (by omega) (Nat.le_trans HBQ.out.size hWz))), by have := HZ.out; have := BS.size; omega⟩
              · have h1 := vown_set (own_grown OQ.out HBW.out (Nat.le_refl _)) (k * 2 + 1) (.int .i64 (max (x2 - t) 0)) (by omega)
                rw [hv_set _ k (x1, x2) _ (by rw [tkR_at (by rw [HNN.out]; exact hlt)]; exact HFK.out), tkR_step HFK.out] at h1
                exact h1
              · exact (BS.block _ (by have := VQ.out.lt; have := V2Q.out.lt; omega) (by omega)).trans ((HBW.out.block _ (by have := V2Q.out.lt; omega)).trans NB.out)
            case measure => simp [intOf]; omega
        · obtain rfl : k = nn := by omega
          have e1 : tkR ft t k = ft.map fun x => (x.1, max (x.2 - t) 0) := by unfold tkR; rw [List.take_of_length_le (by rw [HNN.out]; exact Nat.le_refl _), List.drop_of_length_le (by rw [HNN.out]; exact Nat.le_refl _), List.append_nil]
          have HO' := HO.out
          rw [e1] at HO'
          have HL2 : Hid ((ft.map fun x : Hd => (x.1, max (x.2 - t) 0)).length = k) := Lib.hid (by rw [List.length_map]; exact HNN.out)
          have HTT := Lib.hid (own_ht HO' HL2.out (fun x hx => by
            obtain ⟨y, hy, rfl⟩ := List.mem_map.1 hx
            have h1 := HIF.out y hy
            have h2 := HBDS.out y hy
            have h3 := HTM.out
            exact ⟨h1.1, by simp only; omega, by simp only; omega⟩))
          clear HO HO' e1
          obtain ⟨c0, c1, c2, c3, f0, f1, f2, f3⟩ := V0.out.cells
          obtain ⟨z0, z1, z2, z3, t0', t1, t2, t3⟩ := V2.out.cells
          go_wp2_with fail
          refine ret_cell1 (p := 4) rfl rfl rfl (V2.out.store g true ll a6 k c6).load ?_
          have BS := V2.out.store_but g true ll a6 k c6
          exact HFIN.out _ _ a6 c6 _ (by rw [HFT.out]) (by rw [HL2.out]) (HTT.out.other V2.out.noH BS) (HB.out.trans (BS.below (by omega) HB.out.size))
    · obtain rfl : false = e1 := by have := HE.out; simpa [hp] using this
      have hpd : decide (0 < ll) = false := decide_eq_false hp
      clear hp
      go_wp2_with fail
      have BS := (But1.set w4 w.heap.size 2 (.int .i64 ll)).trans (But1.set _ w.heap.size 1 (.bool false))
      have VS := Lib.hid ((V0.out.set2 ll).set1 false)
      have V2S := Lib.hid (V2.out.but BS (by omega))
      have L1S : Hid (((w4.setCell ⟨w.heap.size, 2, none⟩ (.int .i64 ll)).setCell ⟨w.heap.size, 1, none⟩ (.bool false)).heap[w.heap.size + 1]? = some (.cells #[.int .i64 t] 3 (0, 0))) := Lib.hid ((BS.block _ (Array.getElem?_eq_some_iff.1 L1.out).1 (by omega)).trans L1.out)
      have HBS := Lib.hid (HB3.out.trans (BS.below (Nat.le_refl _) HB3.out.size))
      clear c0 c1 c2 c3 f0 f1 f2 f3 BS V0 V2 L1 HB3
      generalize (w4.setCell ⟨w.heap.size, 2, none⟩ (.int .i64 ll)).setCell ⟨w.heap.size, 1, none⟩ (.bool false) = w5 at *
      refine (mThoseT (.pointer (some ⟨w.heap.size, 0, none⟩)) (.pointer (some ⟨w.heap.size + 1, 0, none⟩)) (fun x => false || decide (t < x.2)) a n c s w5 HX.out hn (HH.out.below HBS.out) (fun w1 x hb _ => cTick w.heap.size (w.heap.size + 1) false t x w1 (VS.out.below hb VS.out.lt).cells.2.1 (by have := (hb.block _ (Array.getElem?_eq_some_iff.1 L1S.out).1).trans L1S.out; simp [World.cell?, this]))).mono ?_
      rintro e w6 ⟨⟨a6, c6, rfl, ho6⟩, hb6⟩
      have V06 := Lib.hid (VS.out.below hb6 VS.out.lt)
      have V26 := Lib.hid (V2S.out.below hb6 V2S.out.lt)
      have L16 : Hid (w6.heap[w.heap.size + 1]? = some (.cells #[.int .i64 t] 3 (0, 0))) := Lib.hid ((hb6.block _ (Array.getElem?_eq_some_iff.1 L1S.out).1).trans L1S.out)
      have HB6 := Lib.hid (HBS.out.trans (hb6.mono HBS.out.size))
      have HO6 := Lib.hid (vown_le ho6 (B' := w.heap.size + 3) (by have := V2S.out.lt; omega))
      have HZ6 : Hid (w.heap.size + 3 ≤ w6.heap.size) := Lib.hid (by have := V26.out.lt; omega)
      have HIF : Hid (InS (s.filter fun x => false || decide (t < x.2))) := Lib.hid (ins_filter _ HH.out.2)
      have HBDS : Hid (∀ x ∈ s.filter (fun x => false || decide (t < x.2)), 0 ≤ x.2 ∧ x.2 ≤ 1000000) := Lib.hid (fun x hx => HNNS.out x (List.mem_filter.1 hx).1)
      have hfl : (s.filter fun x => false || decide (t < x.2)).length ≤ 100000 := Nat.le_trans (List.length_filter_le _ _) (by rw [HX.out]; exact hn)
      clear ho6 hb6 VS V2S L1S HBS
      obtain ⟨ft, hft⟩ : ∃ ft, s.filter (fun x => false || decide (t < x.2)) = ft := ⟨_, rfl⟩
      rw [hft] at HO6 HIF HBDS hfl ⊢
      have HFT := Lib.hid hft
      clear hft
      obtain ⟨nn, hnn⟩ : ∃ nn, ft.length = nn := ⟨_, rfl⟩
      rw [hnn] at HO6 hfl ⊢
      have HNN := Lib.hid hnn
      clear hnn
      obtain ⟨c0, c1, c2, c3, f0, f1, f2, f3⟩ := V06.out.cells
      go_wp2
      have BS := But1.set w6 w.heap.size 3 (.slice a6 nn c6)
      have VS := Lib.hid (V06.out.set3 a6 nn c6)
      have V2S := Lib.hid (V26.out.but BS (by omega))
      have OS := Lib.hid (vown_but HO6.out BS (by omega))
      have L1S : Hid ((w6.setCell ⟨w.heap.size, 3, none⟩ (.slice a6 nn c6)).heap[w.heap.size + 1]? = some (.cells #[.int .i64 t] 3 (0, 0))) := Lib.hid ((BS.block _ (Array.getElem?_eq_some_iff.1 L16.out).1 (by omega)).trans L16.out)
      have HBS := Lib.hid (HB6.out.trans (BS.below (Nat.le_refl _) HB6.out.size))
      have HZS : Hid (w.heap.size + 3 ≤ (w6.setCell ⟨w.heap.size, 3, none⟩ (.slice a6 nn c6)).heap.size) := Lib.hid (Nat.le_trans HZ6.out BS.size)
      clear c0 c1 c2 c3 f0 f1 f2 f3 BS V06 V26 L16 HB6 HO6 HZ6
      generalize w6.setCell ⟨w.heap.size, 3, none⟩ (.slice a6 nn c6) = w7 at *
      go_loopw [30] (fun v30 wr => ∃ k : Nat, v30 = .int .i64 (k : Int) ∧ k ≤ nn ∧ wr.ownsRow (w.heap.size + 3) 86 2 (.slice a6 nn c6) nn (hv (tkR ft t k)) ∧ MV wr w.heap.size g false ll a6 nn c6 ∧ wr.heap[w.heap.size + 1]? = some (.cells #[.int .i64 t] 3 (0, 0)) ∧
        MV wr (w.heap.size + 2) 0 false 0 none 0 0 ∧ Below w.heap.size w wr ∧ w.heap.size + 3 ≤ wr.heap.size) (fun v _ => nn - (intOf v).toNat)
      case atStart => exact ⟨0, rfl, by omega, by simpa [tkR] using OS.out, VS.out, L1S.out, V2S.out, HBS.out, HZS.out⟩
      case round =>
        clear OS VS L1S V2S HBS HZS
        obtain ⟨k, rfl, hk, ho, hv0, hl1, hv2, hB, hZ⟩ := hrel
        have HO := Lib.hid ho
        have V0 := Lib.hid hv0
        have L1 := Lib.hid hl1
        have V2 := Lib.hid hv2
        have HB := Lib.hid hB
        have HZ := Lib.hid hZ
        clear ho hv0 hl1 hv2 hB hZ
        by_cases hlt : k < nn
        · obtain ⟨g', rfl, hgB, hgc, -⟩ := kown_at HO.out (by omega)
          obtain ⟨⟨x1, x2⟩, hfk⟩ : ∃ x, ft[k]? = some x := ⟨_, List.getElem?_eq_getElem (by rw [HNN.out]; exact hlt)⟩
          have hrk : (tkR ft t k)[k]? = some (x1, x2) := by rw [tkR_at (by rw [HNN.out]; exact hlt)]; exact hfk
          have u0 := hv_at _ k _ hrk 0 (by omega)
          have u1 := hv_at _ k _ hrk 1 (by omega)
          simp only [hcs] at u0 u1
          have RC0 := vown_cell HO.out (j := k * 2 + 0) (u := .int .u32 x1) (by simpa using u0)
          have RC1 := vown_cell HO.out (j := k * 2 + 1) (u := .int .i64 x2) (by simpa using u1)
          have HBD := Lib.hid (HBDS.out (x1, x2) (List.mem_of_getElem? hfk))
          have HFK := Lib.hid hfk
          have HGB := Lib.hid hgB
          have d0 : wr.cell? ⟨g', k * 2, none⟩ = some (.int .u32 x1) := RC0.1
          have d1 : wr.cell? ⟨g', k * 2 + 1, none⟩ = some (.int .i64 x2) := RC1.1
          have hkz : (k : Int) < (nn : Int) := by omega
          clear hrk u0 u1 RC0 hfk hgB
          go_wp2
          have hbq := bel1 wr (.cells #[.int .u32 x1, .int .i64 x2] 86)
          have E1 := Lib.hid (held_new wr (.int .u32 x1) (.int .i64 x2)).2
          have OQ := Lib.hid (HO.out.alloc (.cells #[.int .u32 x1, .int .i64 x2] 86))
          have VQ := Lib.hid (V0.out.below hbq V0.out.lt)
          have V2Q := Lib.hid (V2.out.below hbq V2.out.lt)
          have NB : Hid ((wr.alloc (.cells #[.int .u32 x1, .int .i64 x2] 86)).heap[w.heap.size + 1]? = some (.cells #[.int .i64 t] 3 (0, 0))) := Lib.hid (v_blk L1.out _)
          have NQ : Hid ((wr.alloc (.cells #[.int .u32 x1, .int .i64 x2] 86)).cell? ⟨w.heap.size + 1, 0, none⟩ = some (.int .i64 t)) := Lib.hid (by have := NB.out; simp only [World.cell?, this]; rfl)
          have HBQ := Lib.hid (HB.out.trans (hbq.mono HB.out.size))
          have HQZ : Hid (wr.heap.size < (wr.alloc (.cells #[.int .u32 x1, .int .i64 x2] 86)).heap.size) := Lib.hid (by rw [World.size_alloc]; omega)
          have RC : Hid ((wr.alloc (.cells #[.int .u32 x1, .int .i64 x2] 86)).cell? ⟨g', k * 2 + 1, none⟩ = some (.int .i64 x2) ∧ (wr.alloc (.cells #[.int .u32 x1, .int .i64 x2] 86)).frozen? ⟨g', k * 2 + 1, none⟩ = false) := Lib.hid ⟨(hbq.cell (cell_lt RC1.1)).trans RC1.1, (hbq.frozen (p := ⟨g', k * 2 + 1, none⟩) (cell_lt RC1.1)).trans RC1.2⟩
          clear hbq RC1 d0 d1
          generalize wr.alloc (.cells #[.int .u32 x1, .int .i64 x2] 86) = wq at *
          refine wp_region_last (tkV w.heap.size wr.heap.size g' k nn c6 x2 t wq) (fun W => Below wq.heap.size wq W) (fun _ A B => Below A.heap.size A B) tkD [35, 36, 37, 38, 39, 40, 41, 42, 43] (by kernel_rfl) (by kernel_rfl) (by kernel_rfl) (by kernel_rfl) (by kernel_rfl) (by decide) (Below.refl _ wq).drew
            (fun i j oi oj v us A B hoi hoj hij hni hw hSA hr hv => tk_st _ _ _ _ _ _ _ _ _ (fun e => hni (by subst e; rfl)) hv)
            ⟨?_, ?_, ?_, ?_, ?_, ?_, ?_, ?_, ?_, ?_, trivial⟩ ?hend
          case refine_1 =>
            intro a' w9 hS h0 hd
            have e2 : a'.tmps[2]?.getD undef = .pointer (some ⟨w.heap.size, 0, none⟩) := vev (h0 2 (by kernel_rfl))
            refine Does2.value (.pointer (some ⟨w.heap.size, 3, none⟩)) (w' := w9) ?_ ⟨rfl, fun _ => ⟨hS, Below.refl _ _⟩⟩
            clear hS h0 hd
            go_simp
          case refine_2 =>
            intro a' w9 hS h0 hd
            have e35 : a'.tmps[35]?.getD undef = .pointer (some ⟨w.heap.size, 3, none⟩) := vev (hd 0 List.mem_cons_self)
            obtain ⟨c0, c1, c2, c3, f0, f1, f2, f3⟩ := (VQ.out.below hS VQ.out.lt).cells
            refine Does2.value (.slice (some ⟨g', 0, none⟩) nn c6) (w' := w9) ?_ ⟨rfl, fun _ => ⟨hS, Below.refl _ _⟩⟩
            clear hS h0 hd
            go_simp
          case refine_3 =>
            intro a' w9 hS h0 hd
            have e5 : a'.tmps[5]?.getD undef = .int .i64 (k : Int) := vev (h0 5 (by kernel_rfl))
            refine Does2.value (.int .i64 (k : Int)) (w' := w9) ?_ ⟨rfl, fun _ => ⟨hS, Below.refl _ _⟩⟩
            clear hS h0 hd
            go_simp
          case refine_4 =>
            intro a' w9 hS h0 hd
            have e6 : a'.tmps[6]?.getD undef = .pointer (some ⟨wr.heap.size, 0, none⟩) := vev (h0 6 (by kernel_rfl))
            refine Does2.value (.pointer (some ⟨wr.heap.size, 1, none⟩)) (w' := w9) ?_ ⟨rfl, fun _ => ⟨hS, Below.refl _ _⟩⟩
            clear hS h0 hd
            go_simp
          case refine_5 =>
            intro a' w9 hS h0 hd
            have e38 : a'.tmps[38]?.getD undef = .pointer (some ⟨wr.heap.size, 1, none⟩) := vev (hd 3 List.mem_cons_self)
            have c0 := (hS.cell (cell_lt E1.out)).trans E1.out
            refine Does2.value (.int .i64 x2) (w' := w9) ?_ ⟨rfl, fun _ => ⟨hS, Below.refl _ _⟩⟩
            clear hS h0 hd
            go_simp
          case refine_6 =>
            intro a' w9 hS h0 hd
            have e3 : a'.tmps[3]?.getD undef = .pointer (some ⟨w.heap.size + 1, 0, none⟩) := vev (h0 3 (by kernel_rfl))
            have c0 := (hS.cell (cell_lt NQ.out)).trans NQ.out
            refine Does2.value (.int .i64 t) (w' := w9) ?_ ⟨rfl, fun _ => ⟨hS, Below.refl _ _⟩⟩
            clear hS h0 hd
            go_simp
          case refine_7 =>
            intro a' w9 hS h0 hd
            have e39 : a'.tmps[39]?.getD undef = .int .i64 x2 := vev (hd 4 List.mem_cons_self)
            have e40 : a'.tmps[40]?.getD undef = .int .i64 t := vev (hd 5 (List.mem_cons_of_mem _ List.mem_cons_self))
            refine Does2.call 106 #[.int .i64 x2, .int .i64 t] (w' := w9) ?_ ((mLessT x2 t w9 (by have := HBD.out; have := HTM.out; omega) (by have := HBD.out; have := HTM.out; omega)).mono ?_)
            · clear hS h0 hd
              go_simp
            · rintro e w8 ⟨rfl, rfl⟩
              exact ⟨_, rfl, rfl, fun _ => ⟨hS, Below.refl _ _⟩⟩
          case refine_8 =>
            intro a' w9 hS h0 hd
            have e36 : a'.tmps[36]?.getD undef = .slice (some ⟨g', 0, none⟩) nn c6 := vev (hd 1 List.mem_cons_self)
            have e37 : a'.tmps[37]?.getD undef = .int .i64 (k : Int) := vev (hd 2 (List.mem_cons_of_mem _ List.mem_cons_self))
            refine Does2.value (.pointer (some ⟨g', k * 2, none⟩)) (w' := w9) ?_ ⟨rfl, fun _ => ⟨hS, Below.refl _ _⟩⟩
            clear hS h0 hd
            go_simp
          case refine_9 =>
            intro a' w9 hS h0 hd
            have e42 : a'.tmps[42]?.getD undef = .pointer (some ⟨g', k * 2, none⟩) := vev (hd 7 List.mem_cons_self)
            refine Does2.value (.pointer (some ⟨g', k * 2 + 1, none⟩)) (w' := w9) ?_ ⟨rfl, fun _ => ⟨hS, Below.refl _ _⟩⟩
            clear hS h0 hd
            go_simp
          case refine_10 =>
            intro a' w9 hS h0 hd
            have e43 : a'.tmps[43]?.getD undef = .pointer (some ⟨g', k * 2 + 1, none⟩) := vev (hd 8 List.mem_cons_self)
            have e41 : a'.tmps[41]?.getD undef = .int .i64 (max (x2 - t) 0) := vev (hd 6 (List.mem_cons_of_mem _ List.mem_cons_self))
            have q0 := (hS.cell (cell_lt RC.out.1)).trans RC.out.1
            have q1 := (hS.frozen (p := ⟨g', k * 2 + 1, none⟩) (cell_lt RC.out.1)).trans RC.out.2
            refine Does2.skip (w' := w9.setCell ⟨g', k * 2 + 1, none⟩ (.int .i64 (max (x2 - t) 0))) ?_ ⟨⟨w9, hS, rfl⟩, fun h => absurd rfl h⟩
            clear hS h0 hd
            go_simp
          case hend =>
            intro f w9 hv
            obtain ⟨W, hbW, rfl⟩ := hv
            simp only [putAll, Act.put, List.setIfInBounds_toArray, List.set_cons_zero, List.set_cons_succ]
            have HBW := Lib.hid hbW
            clear hbW
            go_wp2
            go_roundw
            case rel =>
              have hgr : w.heap.size + 3 ≤ g' := HGB.out
              have BS := But1.set W g' (k * 2 + 1) (.int .i64 (max (x2 - t) 0))
              have hWz := HBW.out.size
              have hq := HQZ.out
              refine ⟨k + 1, by go_num, by omega, ?_, (VQ.out.below HBW.out VQ.out.lt).but BS (by omega), ?_, (V2Q.out.below HBW.out V2Q.out.lt).but BS (by omega), HBQ.out.trans ((HBW.out.mono HBQ.out.size).trans (BS.below (by omega) (Nat.le_trans HBQ.out.size hWz))), by have := HZ.out; have := BS.size; omega⟩
              · have h1 := vown_set (own_grown OQ.out HBW.out (Nat.le_refl _)) (k * 2 + 1) (.int .i64 (max (x2 - t) 0)) (by omega)
                rw [hv_set _ k (x1, x2) _ (by rw [tkR_at (by rw [HNN.out]; exact hlt)]; exact HFK.out), tkR_step HFK.out] at h1
                exact h1
              · exact (BS.block _ (by have := VQ.out.lt; have := V2Q.out.lt; omega) (by omega)).trans ((HBW.out.block _ (by have := V2Q.out.lt; omega)).trans NB.out)
            case measure => simp [intOf]; omega
        · obtain rfl : k = nn := by omega
          have e1 : tkR ft t k = ft.map fun x => (x.1, max (x.2 - t) 0) := by unfold tkR; rw [List.take_of_length_le (by rw [HNN.out]; exact Nat.le_refl _), List.drop_of_length_le (by rw [HNN.out]; exact Nat.le_refl _), List.append_nil]
          have HO' := HO.out
          rw [e1] at HO'
          have HL2 : Hid ((ft.map fun x : Hd => (x.1, max (x.2 - t) 0)).length = k) := Lib.hid (by rw [List.length_map]; exact HNN.out)
          have HTT := Lib.hid (own_ht HO' HL2.out (fun x hx => by
            obtain ⟨y, hy, rfl⟩ := List.mem_map.1 hx
            have h1 := HIF.out y hy
            have h2 := HBDS.out y hy
            have h3 := HTM.out
            exact ⟨h1.1, by simp only; omega, by simp only; omega⟩))
          clear HO HO' e1
          obtain ⟨c0, c1, c2, c3, f0, f1, f2, f3⟩ := V0.out.cells
          obtain ⟨z0, z1, z2, z3, t0', t1, t2, t3⟩ := V2.out.cells
          go_wp2_with fail
          refine ret_cell1 (p := 4) rfl rfl rfl (V2.out.store g false ll a6 k c6).load ?_
          have BS := V2.out.store_but g false ll a6 k c6
          exact HFIN.out _ _ a6 c6 _ (by rw [HFT.out]) (by rw [HL2.out]) (HTT.out.other V2.out.noH BS) (HB.out.trans (BS.below (by omega) HB.out.size))
end Go.Proofs.YtiabbkjmgaemaaaGreat
/- Which times may be, what is right, what is the same: the document's own answers. -/
namespace Go.Proofs.YtiabbkjmgaemaaaGreat
set_option linter.unusedVariables false
open Go.RowKit

def vAskd (g : Int) : Bool := decide (3758096640 ≤ g ∧ g ≤ 4026531839)
theorem vAsked (g : Int) (w : World) :
    Calls Tryz.prog 41 #[.int .u32 g] w fun e w' => e = .returned (.bool (vAskd g)) ∧ w' = w := by
  unfold vAskd
  by_cases h1 : 3758096640 ≤ g
  · by_cases h2 : g ≤ 4026531839
    · rw [decide_eq_true ⟨h1, h2⟩]
      go_enter Tryz.func41, Tryz.ntmps41
      go_wp2
      go_ret
      exact ⟨rfl, rfl⟩
    · rw [decide_eq_false (fun e => h2 e.2)]
      go_enter Tryz.func41, Tryz.ntmps41
      go_wp2
      go_ret
      exact ⟨rfl, rfl⟩
  · rw [decide_eq_false (fun e => h1 e.1)]
    go_enter Tryz.func41, Tryz.ntmps41
    go_wp2
    go_ret
    exact ⟨rfl, rfl⟩
/-- Times may be. -/
def mayP (kp la : Int) : Prop := 1 ≤ la ∧ la ≤ kp ∧ kp ≤ 1000000
instance (kp la : Int) : Decidable (mayP kp la) := by unfold mayP; infer_instance
theorem tim_new (w : World) (v0 v1 : Value) : (w.alloc (.cells #[v0, v1] 23)).cell? ⟨w.heap.size, 0, none⟩ = some v0 ∧ (w.alloc (.cells #[v0, v1] 23)).cell? ⟨w.heap.size, 1, none⟩ = some v1 := by
  have hN := Go.Deep.blk_alloc_new w (.cells #[v0, v1] 23)
  exact ⟨by simp only [World.cell?, hN]; rfl, by simp only [World.cell?, hN]; rfl⟩
theorem rMay8 (kp la : Int) (w : World) : Calls Tryz.prog 12 #[.agg #[.int .i64 kp, .int .i64 la]] w fun e w' => e = .returned (.bool (decide (mayP kp la))) ∧ Below w.heap.size w w' := by
  by_cases h1 : 1 ≤ la
  · by_cases h2 : la ≤ kp
    · by_cases h3 : kp ≤ 1000000
      · have HE : Hid (decide (mayP kp la) = true) := Lib.hid (decide_eq_true ⟨h1, h2, h3⟩)
        go_enter Tryz.func12, Tryz.ntmps12
        go_wp2
        go_ret
        exact ⟨ret_bool HE.out.symm, bel1 w _⟩
      · have HE : Hid (decide (mayP kp la) = false) := Lib.hid (decide_eq_false fun h => h3 h.2.2)
        have h3' : decide (kp ≤ 1000000) = false := decide_eq_false h3
        clear h3
        go_enter Tryz.func12, Tryz.ntmps12
        go_wp2
        go_ret
        exact ⟨ret_bool HE.out.symm, bel1 w _⟩
    · have HE : Hid (decide (mayP kp la) = false) := Lib.hid (decide_eq_false fun h => h2 h.2.1)
      have h2' : decide (la ≤ kp) = false := decide_eq_false h2
      clear h2
      go_enter Tryz.func12, Tryz.ntmps12
      go_wp2
      go_ret
      exact ⟨ret_bool HE.out.symm, bel1 w _⟩
  · have HE : Hid (decide (mayP kp la) = false) := Lib.hid (decide_eq_false fun h => h1 h.1)
    have h1' : decide (1 ≤ la) = false := decide_eq_false h1
    clear h1
    go_enter Tryz.func12, Tryz.ntmps12
    go_wp2
    go_ret
    exact ⟨ret_bool HE.out.symm, bel1 w _⟩
theorem mMay (kp la : Int) (w : World) : Calls Tryz.prog 40 #[.agg #[.int .i64 kp, .int .i64 la]] w fun e w' => e = .returned (.bool (decide (mayP kp la))) ∧ Below w.heap.size w w' := by
  by_cases h1 : 1 ≤ la
  · by_cases h2 : la ≤ kp
    · by_cases h3 : kp ≤ 1000000
      · have HE : Hid (decide (mayP kp la) = true) := Lib.hid (decide_eq_true ⟨h1, h2, h3⟩)
        go_enter Tryz.func40, Tryz.ntmps40
        go_wp2
        go_ret
        exact ⟨ret_bool HE.out.symm, bel1 w _⟩
      · have HE : Hid (decide (mayP kp la) = false) := Lib.hid (decide_eq_false fun h => h3 h.2.2)
        have h3' : decide (kp ≤ 1000000) = false := decide_eq_false h3
        clear h3
        go_enter Tryz.func40, Tryz.ntmps40
        go_wp2
        go_ret
        exact ⟨ret_bool HE.out.symm, bel1 w _⟩
    · have HE : Hid (decide (mayP kp la) = false) := Lib.hid (decide_eq_false fun h => h2 h.2.1)
      have h2' : decide (la ≤ kp) = false := decide_eq_false h2
      clear h2
      go_enter Tryz.func40, Tryz.ntmps40
      go_wp2
      go_ret
      exact ⟨ret_bool HE.out.symm, bel1 w _⟩
  · have HE : Hid (decide (mayP kp la) = false) := Lib.hid (decide_eq_false fun h => h1 h.1)
    have h1' : decide (1 ≤ la) = false := decide_eq_false h1
    clear h1
    go_enter Tryz.func40, Tryz.ntmps40
    go_wp2
    go_ret
    exact ⟨ret_bool HE.out.symm, bel1 w _⟩
def okL (ex : Bool) (left : Int) : Prop := if ex then 1 ≤ left ∧ left ≤ 1000000 else left = 0
def okX (ex : Bool) (x : Hd) : Prop := (0 ≤ x.2 ∧ x.2 ≤ 1000000) ∧ (ex = false → x.2 ≠ 0)
/-- What is known is right. -/
def okM (g : Int) (ex : Bool) (left : Int) (s : List Hd) : Prop := vAskd g = true ∧ s.length ≤ 64 ∧ okL ex left ∧ (∀ x ∈ s, okX ex x) ∧ Inc (ad s)
instance (l : List Int) : Decidable (Inc l) := by unfold Inc; infer_instance
instance (ex : Bool) (left : Int) : Decidable (okL ex left) := by unfold okL; infer_instance
instance (ex : Bool) (x : Hd) : Decidable (okX ex x) := by unfold okX; infer_instance
instance (g : Int) (ex : Bool) (left : Int) (s : List Hd) : Decidable (okM g ex left s) := by unfold okM; infer_instance
theorem inc_st {s : List Hd} {k : Nat} {x p : Hd} (h : Inc (ad (s.take (k + 1)))) (hs : s[k + 1]? = some x) (hp : s[k]? = some p) (hlt : p.1 < x.1) : Inc (ad (s.take (k + 1 + 1))) := by
  unfold Inc ad at *
  rw [takeH hs, List.map_append, List.pairwise_append]
  refine ⟨h, by simp, fun a ha b hb => ?_⟩
  simp at hb; subst hb
  rw [takeH hp, List.map_append, List.pairwise_append] at h
  rw [takeH hp, List.map_append] at ha
  rcases List.mem_append.1 ha with h1 | h1
  · have := h.2.2 a h1 p.1 (by simp); omega
  · simp at h1; subst h1; exact hlt
theorem inc_one {s : List Hd} {x : Hd} (hs : s[0]? = some x) : Inc (ad (s.take (0 + 1))) := by
  rw [takeH hs]; unfold Inc ad; simp
theorem inc_not {s : List Hd} {k : Nat} {x p : Hd} (hs : s[k + 1]? = some x) (hp : s[k]? = some p) (hge : ¬ p.1 < x.1) : ¬ Inc (ad s) := by
  unfold Inc
  intro h
  rw [List.pairwise_iff_getElem] at h
  obtain ⟨h1, e1⟩ := List.getElem?_eq_some_iff.1 hs
  obtain ⟨h2, e2⟩ := List.getElem?_eq_some_iff.1 hp
  have := h k (k + 1) (by rw [ad_len]; exact h2) (by rw [ad_len]; exact h1) (by omega)
  rw [show (ad s)[k]'(by rw [ad_len]; exact h2) = s[k].1 by simp [ad], show (ad s)[k + 1]'(by rw [ad_len]; exact h1) = s[k + 1].1 by simp [ad], e1, e2] at this
  exact hge this
set_option maxRecDepth 100000 in
set_option maxHeartbeats 16000000 in
/-- The sources' part of Right. -/
theorem rRight8 (g : Int) (ex : Bool) (left : Int) (a : Option Addr) (n c : Nat) (s : List Hd) (w : World) (hx : s.length = n) (hH : Hs w a s) (hm : n ≤ 9223372036854775807) :
    Calls Tryz.prog 13 #[.agg #[.int .u32 g, .bool ex, .int .i64 left, .slice a n c]] w fun e w' => e = .returned (.bool (decide (okM g ex left s))) ∧ Below w.heap.size w w' := by
  have HX := Lib.hid hx
  have HH := Lib.hid hH
  clear hx hH
  obtain ⟨ask, hask⟩ : ∃ ask, vAskd g = ask := ⟨_, rfl⟩
  have D2 := Lib.hid hask
  clear hask
  obtain ⟨w1, hw1⟩ : ∃ w1, w1 = w.alloc (.cells #[.int .u32 g, .bool ex, .int .i64 left, .slice a n c] 28) := ⟨_, rfl⟩
  have V0 : Hid (MV w1 w.heap.size g ex left a n c) := Lib.hid (by rw [hw1]; exact MV.new w g ex left a n c)
  have HB := Lib.hid (by rw [hw1]; exact bel1 w _ : Below w.heap.size w w1)
  have HH1 := Lib.hid (HH.out.below HB.out)
  go_enter Tryz.func13, Tryz.ntmps13
  go_wp2_with fail
  rw [← hw1]
  clear hw1
  refine (vAsked g w1).mono ?_
  rintro e w2 ⟨rfl, rfl⟩
  rw [D2.out]
  obtain ⟨c0, c1, c2, c3, -⟩ := V0.out.cells
  cases ask
  · have HE : Hid (decide (okM g ex left s) = false) := Lib.hid (decide_eq_false fun h => by have := h.1; rw [D2.out] at this; cases this)
    go_wp2
    go_ret
    exact ⟨ret_bool HE.out.symm, HB.out⟩
  by_cases h64 : n ≤ 64
  · have h64' : (n : Int) ≤ 64 := by omega
    by_cases hle : okL ex left
    · have HLE := Lib.hid hle
      cases ex
      · obtain rfl : left = 0 := hle
        go_wp2
        go_loopw [4] (fun v4 wr => ∃ k : Nat, v4 = .int .i64 (k : Int) ∧ k ≤ n ∧ (∀ x ∈ s.take k, okX false x) ∧ Inc (ad (s.take k)) ∧ Below w.heap.size w wr ∧ MV wr w.heap.size g false 0 a n c) (fun v _ => n - (intOf v).toNat)
        case atStart => exact ⟨0, rfl, by omega, by simp, by simp [Inc, ad], HB.out, V0.out⟩
        case round =>
          clear V0 HB HH1 c0 c1 c2 c3
          obtain ⟨k, rfl, hk, hal, hri, hB, hv0⟩ := hrel
          have HA := Lib.hid hal
          have HRI := Lib.hid hri
          have HB9 := Lib.hid hB
          have V9 := Lib.hid hv0
          clear hal hri hB hv0
          obtain ⟨c0, c1, c2, c3, -⟩ := V9.out.cells
          by_cases hlt : k < n
          · obtain ⟨b, off, rfl, hc⟩ := HH.out.at (k := k) (by rw [HX.out]; exact hlt)
            obtain ⟨⟨x1, x2⟩, hfk⟩ : ∃ x, s[k]? = some x := ⟨_, List.getElem?_eq_getElem (by rw [HX.out]; exact hlt)⟩
            obtain ⟨d0, d1⟩ := (hc k _ hfk).below HB9.out
            simp only at d0 d1
            have HK := Lib.hid hfk
            have HC := Lib.hid hc
            have HBR := HB9
            have hkz : (k : Int) < (n : Int) := by omega
            have k0 : (0 : Int) ≤ (k : Int) := by omega
            have e1 : ∀ q, (wr.drewN q).cell? ⟨w.heap.size, 1, none⟩ = some (.bool false) := fun q => c1
            have e3 : ∀ q, (wr.drewN q).cell? ⟨w.heap.size, 3, none⟩ = some (.slice (some ⟨b, off, none⟩) n c) := fun q => c3
            have t5 : ∀ q, (wr.drewN q).cell? ⟨b, off + k * 2, none⟩ = some (.int .u32 x1) := fun q => d0
            clear hc hfk
            by_cases hx0 : x2 < 0
            · have hno : Hid (¬ okX false (x1, x2)) := Lib.hid (fun h => by have := h.1.1; simp only at this; omega)
              go_wp2
              go_quiet (fail)
              go_wp2
              go_ret
              exact ⟨ret_bool (decide_eq_false fun h => hno.out (h.2.2.2.1 _ (List.mem_of_getElem? HK.out))).symm, bdrawn HB9.out _⟩
            · have hx0' : decide (x2 < 0) = false := decide_eq_false hx0
              by_cases hxm : 1000000 < x2
              · have hno : Hid (¬ okX false (x1, x2)) := Lib.hid (fun h => by have := h.1.2; simp only at this; omega)
                clear hx0
                go_wp2
                go_quiet (fail)
                go_wp2
                go_ret
                exact ⟨ret_bool (decide_eq_false fun h => hno.out (h.2.2.2.1 _ (List.mem_of_getElem? HK.out))).symm, bdrawn HB9.out _⟩
              · have hxm' : decide (1000000 < x2) = false := decide_eq_false hxm
                by_cases hxz : x2 = 0
                · have hxz' : (x2 == 0) = true := by simpa using hxz
                  have hno : Hid (¬ okX false (x1, x2)) := Lib.hid (fun h => h.2 rfl hxz)
                  clear hx0 hxm hxz
                  go_wp2
                  go_quiet (fail)
                  go_wp2
                  go_ret
                  exact ⟨ret_bool (decide_eq_false fun h => hno.out (h.2.2.2.1 _ (List.mem_of_getElem? HK.out))).symm, bdrawn HB9.out _⟩
                · have hxz' : (x2 == 0) = false := by simpa using hxz
                  have HOK : Hid (okX false (x1, x2)) := Lib.hid ⟨⟨by simp only; omega, by simp only; omega⟩, fun _ => hxz⟩
                  clear hx0 hxm hxz
                  rcases k with _ | m
                  · simp only [Int.ofNat_zero, Nat.zero_mul, Nat.add_zero] at *
                    go_wp2
                    go_quiet (fail)
                    go_wp2
                    go_roundw
                    case rel => exact ⟨_, by go_num, by omega, by rw [takeH HK.out]; intro x hx; rcases List.mem_append.1 hx with h | h; exact HA.out x h; simp at h; subst h; exact HOK.out, inc_one HK.out, bdrawn HB9.out _, V9.out⟩
                    case measure => simp [intOf]; omega
                  · obtain ⟨⟨p1, p2⟩, hpk⟩ : ∃ x, s[m]? = some x := ⟨_, List.getElem?_eq_getElem (by rw [HX.out]; omega)⟩
                    have hpc := ((HC.out m _ hpk).below HBR.out).1
                    have p5 : ∀ q, (wr.drewN q).cell? ⟨b, off + m * 2, none⟩ = some (.int .u32 p1) := fun q => hpc
                    have HP := Lib.hid hpk
                    have hm1 : ((m + 1 : Nat) : Int) = (m : Int) + 1 := by omega
                    rw [hm1] at *
                    have hm0 : (0 : Int) < (m : Int) + 1 := by omega
                    have hm2 : (m : Int) < (n : Int) := by omega
                    have hm3 : (0 : Int) ≤ (m : Int) := by omega
                    clear hpc hpk hm1
                    by_cases hge : x1 ≤ p1
                    · have hge1 : x1 ≤ p1 := hge
                      go_wp2
                      go_quiet (fail)
                      go_wp2
                      go_ret
                      exact ⟨ret_bool (decide_eq_false fun h => inc_not HK.out HP.out (by show ¬ p1 < x1; omega) h.2.2.2.2).symm, bdrawn HB9.out _⟩
                    · have hge1 : decide (x1 ≤ p1) = false := decide_eq_false hge
                      have hlt2 : Hid (p1 < x1) := Lib.hid (by omega)
                      clear hge
                      go_wp2
                      go_quiet (fail)
                      go_wp2
                      go_roundw
                      case rel => exact ⟨_, by go_num, by omega, by rw [takeH HK.out]; intro x hx; rcases List.mem_append.1 hx with h | h; exact HA.out x h; simp at h; subst h; exact HOK.out, inc_st HRI.out HK.out HP.out hlt2.out, bdrawn HB9.out _, V9.out⟩
                      case measure => simp [intOf]; omega
          · obtain rfl : k = n := by omega
            have htk : s.take k = s := List.take_of_length_le (by rw [HX.out]; exact Nat.le_refl _)
            have HA' := HA.out
            have HRI' := HRI.out
            rw [htk] at HA' HRI'
            have HE := Lib.hid (decide_eq_true (show okM g false 0 s from ⟨D2.out, by rw [HX.out]; exact h64, HLE.out, HA', HRI'⟩))
            clear HA' HRI' htk
            go_wp2_with fail
            go_ret
            exact ⟨ret_bool HE.out.symm, HB9.out⟩
      · have hl1 : 1 ≤ left := hle.1
        have hl2 : left ≤ 1000000 := hle.2
        have hl3 : decide (left < 1) = false := decide_eq_false (by omega)
        have hl4 : decide (1000000 < left) = false := decide_eq_false (by omega)
        clear hle hl1 hl2
        go_wp2
        go_loopw [4] (fun v4 wr => ∃ k : Nat, v4 = .int .i64 (k : Int) ∧ k ≤ n ∧ (∀ x ∈ s.take k, okX true x) ∧ Inc (ad (s.take k)) ∧ Below w.heap.size w wr ∧ MV wr w.heap.size g true left a n c) (fun v _ => n - (intOf v).toNat)
        case atStart => exact ⟨0, rfl, by omega, by simp, by simp [Inc, ad], HB.out, V0.out⟩
        case round =>
          clear V0 HB HH1 c0 c1 c2 c3
          obtain ⟨k, rfl, hk, hal, hri, hB, hv0⟩ := hrel
          have HA := Lib.hid hal
          have HRI := Lib.hid hri
          have HB9 := Lib.hid hB
          have V9 := Lib.hid hv0
          clear hal hri hB hv0
          obtain ⟨c0, c1, c2, c3, -⟩ := V9.out.cells
          by_cases hlt : k < n
          · obtain ⟨b, off, rfl, hc⟩ := HH.out.at (k := k) (by rw [HX.out]; exact hlt)
            obtain ⟨⟨x1, x2⟩, hfk⟩ : ∃ x, s[k]? = some x := ⟨_, List.getElem?_eq_getElem (by rw [HX.out]; exact hlt)⟩
            obtain ⟨d0, d1⟩ := (hc k _ hfk).below HB9.out
            simp only at d0 d1
            have HK := Lib.hid hfk
            have HC := Lib.hid hc
            have HBR := HB9
            have hkz : (k : Int) < (n : Int) := by omega
            have k0 : (0 : Int) ≤ (k : Int) := by omega
            have e1 : ∀ q, (wr.drewN q).cell? ⟨w.heap.size, 1, none⟩ = some (.bool true) := fun q => c1
            have e3 : ∀ q, (wr.drewN q).cell? ⟨w.heap.size, 3, none⟩ = some (.slice (some ⟨b, off, none⟩) n c) := fun q => c3
            have t5 : ∀ q, (wr.drewN q).cell? ⟨b, off + k * 2, none⟩ = some (.int .u32 x1) := fun q => d0
            clear hc hfk
            by_cases hx0 : x2 < 0
            · have hno : Hid (¬ okX true (x1, x2)) := Lib.hid (fun h => by have := h.1.1; simp only at this; omega)
              go_wp2
              go_quiet (fail)
              go_wp2
              go_ret
              exact ⟨ret_bool (decide_eq_false fun h => hno.out (h.2.2.2.1 _ (List.mem_of_getElem? HK.out))).symm, bdrawn HB9.out _⟩
            · have hx0' : decide (x2 < 0) = false := decide_eq_false hx0
              by_cases hxm : 1000000 < x2
              · have hno : Hid (¬ okX true (x1, x2)) := Lib.hid (fun h => by have := h.1.2; simp only at this; omega)
                clear hx0
                go_wp2
                go_quiet (fail)
                go_wp2
                go_ret
                exact ⟨ret_bool (decide_eq_false fun h => hno.out (h.2.2.2.1 _ (List.mem_of_getElem? HK.out))).symm, bdrawn HB9.out _⟩
              · have hxm' : decide (1000000 < x2) = false := decide_eq_false hxm
                by_cases hxz : x2 = 0
                · have hxz' : (x2 == 0) = true := by simpa using hxz
                  have HOK : Hid (okX true (x1, x2)) := Lib.hid ⟨⟨by simp only; omega, by simp only; omega⟩, fun h => by cases h⟩
                  clear hx0 hxm hxz
                  rcases k with _ | m
                  · simp only [Int.ofNat_zero, Nat.zero_mul, Nat.add_zero] at *
                    go_wp2
                    go_quiet (fail)
                    go_wp2
                    go_roundw
                    case rel => exact ⟨_, by go_num, by omega, by rw [takeH HK.out]; intro x hx; rcases List.mem_append.1 hx with h | h; exact HA.out x h; simp at h; subst h; exact HOK.out, inc_one HK.out, bdrawn HB9.out _, V9.out⟩
                    case measure => simp [intOf]; omega
                  · obtain ⟨⟨p1, p2⟩, hpk⟩ : ∃ x, s[m]? = some x := ⟨_, List.getElem?_eq_getElem (by rw [HX.out]; omega)⟩
                    have hpc := ((HC.out m _ hpk).below HBR.out).1
                    have p5 : ∀ q, (wr.drewN q).cell? ⟨b, off + m * 2, none⟩ = some (.int .u32 p1) := fun q => hpc
                    have HP := Lib.hid hpk
                    have hm1 : ((m + 1 : Nat) : Int) = (m : Int) + 1 := by omega
                    rw [hm1] at *
                    have hm0 : (0 : Int) < (m : Int) + 1 := by omega
                    have hm2 : (m : Int) < (n : Int) := by omega
                    have hm3 : (0 : Int) ≤ (m : Int) := by omega
                    clear hpc hpk hm1
                    by_cases hge : x1 ≤ p1
                    · have hge1 : x1 ≤ p1 := hge
                      go_wp2
                      go_quiet (fail)
                      go_wp2
                      go_ret
                      exact ⟨ret_bool (decide_eq_false fun h => inc_not HK.out HP.out (by show ¬ p1 < x1; omega) h.2.2.2.2).symm, bdrawn HB9.out _⟩
                    · have hge1 : decide (x1 ≤ p1) = false := decide_eq_false hge
                      have hlt2 : Hid (p1 < x1) := Lib.hid (by omega)
                      clear hge
                      go_wp2
                      go_quiet (fail)
                      go_wp2
                      go_roundw
                      case rel => exact ⟨_, by go_num, by omega, by rw [takeH HK.out]; intro x hx; rcases List.mem_append.1 hx with h | h; exact HA.out x h; simp at h; subst h; exact HOK.out, inc_st HRI.out HK.out HP.out hlt2.out, bdrawn HB9.out _, V9.out⟩
                      case measure => simp [intOf]; omega
                · have hxz' : (x2 == 0) = false := by simpa using hxz
                  have HOK : Hid (okX true (x1, x2)) := Lib.hid ⟨⟨by simp only; omega, by simp only; omega⟩, fun _ => hxz⟩
                  clear hx0 hxm hxz
                  rcases k with _ | m
                  · simp only [Int.ofNat_zero, Nat.zero_mul, Nat.add_zero] at *
                    go_wp2
                    go_quiet (fail)
                    go_wp2
                    go_roundw
                    case rel => exact ⟨_, by go_num, by omega, by rw [takeH HK.out]; intro x hx; rcases List.mem_append.1 hx with h | h; exact HA.out x h; simp at h; subst h; exact HOK.out, inc_one HK.out, bdrawn HB9.out _, V9.out⟩
                    case measure => simp [intOf]; omega
                  · obtain ⟨⟨p1, p2⟩, hpk⟩ : ∃ x, s[m]? = some x := ⟨_, List.getElem?_eq_getElem (by rw [HX.out]; omega)⟩
                    have hpc := ((HC.out m _ hpk).below HBR.out).1
                    have p5 : ∀ q, (wr.drewN q).cell? ⟨b, off + m * 2, none⟩ = some (.int .u32 p1) := fun q => hpc
                    have HP := Lib.hid hpk
                    have hm1 : ((m + 1 : Nat) : Int) = (m : Int) + 1 := by omega
                    rw [hm1] at *
                    have hm0 : (0 : Int) < (m : Int) + 1 := by omega
                    have hm2 : (m : Int) < (n : Int) := by omega
                    have hm3 : (0 : Int) ≤ (m : Int) := by omega
                    clear hpc hpk hm1
                    by_cases hge : x1 ≤ p1
                    · have hge1 : x1 ≤ p1 := hge
                      go_wp2
                      go_quiet (fail)
                      go_wp2
                      go_ret
                      exact ⟨ret_bool (decide_eq_false fun h => inc_not HK.out HP.out (by show ¬ p1 < x1; omega) h.2.2.2.2).symm, bdrawn HB9.out _⟩
                    · have hge1 : decide (x1 ≤ p1) = false := decide_eq_false hge
                      have hlt2 : Hid (p1 < x1) := Lib.hid (by omega)
                      clear hge
                      go_wp2
                      go_quiet (fail)
                      go_wp2
                      go_roundw
                      case rel => exact ⟨_, by go_num, by omega, by rw [takeH HK.out]; intro x hx; rcases List.mem_append.1 hx with h | h; exact HA.out x h; simp at h; subst h; exact HOK.out, inc_st HRI.out HK.out HP.out hlt2.out, bdrawn HB9.out _, V9.out⟩
                      case measure => simp [intOf]; omega
          · obtain rfl : k = n := by omega
            have htk : s.take k = s := List.take_of_length_le (by rw [HX.out]; exact Nat.le_refl _)
            have HA' := HA.out
            have HRI' := HRI.out
            rw [htk] at HA' HRI'
            have HE := Lib.hid (decide_eq_true (show okM g true left s from ⟨D2.out, by rw [HX.out]; exact h64, HLE.out, HA', HRI'⟩))
            clear HA' HRI' htk
            go_wp2_with fail
            go_ret
            exact ⟨ret_bool HE.out.symm, HB9.out⟩
    · have HE : Hid (decide (okM g ex left s) = false) := Lib.hid (decide_eq_false fun h => hle h.2.2.1)
      cases ex
      · have hl : (left == 0) = false := by simpa [okL] using hle
        clear hle
        go_wp2
        go_ret
        exact ⟨ret_bool HE.out.symm, HB.out⟩
      · by_cases hl1 : left < 1
        · clear hle
          go_wp2
          go_ret
          exact ⟨ret_bool HE.out.symm, HB.out⟩
        · have hl2 : 1000000 < left := by
            refine Classical.byContradiction fun h => hle ?_
            exact ⟨by omega, by omega⟩
          have hl3 : decide (left < 1) = false := decide_eq_false hl1
          clear hle hl1
          go_wp2
          go_ret
          exact ⟨ret_bool HE.out.symm, HB.out⟩
  · have HE : Hid (decide (okM g ex left s) = false) := Lib.hid (decide_eq_false fun h => h64 (by have := h.2.1; rw [HX.out] at this; exact this))
    have h64' : (64 : Int) < (n : Int) := by omega
    clear h64
    go_wp2
    go_ret
    exact ⟨ret_bool HE.out.symm, HB.out⟩
end Go.Proofs.YtiabbkjmgaemaaaGreat
/- Whether two are the same: the document's own answer. -/
namespace Go.Proofs.YtiabbkjmgaemaaaGreat
set_option linter.unusedVariables false
open Go.RowKit

theorem mk2s (w : World) (g : Int) (ex : Bool) (left : Int) (a : Option Addr) (n c : Nat) (g' : Int) (ex' : Bool) (left' : Int) (a' : Option Addr) (n' c' : Nat) (W : World)
    (hW : W = (w.alloc (.cells #[.int .u32 g, .bool ex, .int .i64 left, .slice a n c] 28)).alloc (.cells #[.int .u32 g', .bool ex', .int .i64 left', .slice a' n' c'] 28)) :
    MV W w.heap.size g ex left a n c ∧ MV W (w.heap.size + 1) g' ex' left' a' n' c' ∧ Below w.heap.size w W := by
  subst hW
  have e1 : (w.alloc (.cells #[.int .u32 g, .bool ex, .int .i64 left, .slice a n c] 28)).heap.size = w.heap.size + 1 := World.size_alloc _ _
  have v0 := MV.new w g ex left a n c
  have v2 := MV.new (w.alloc (.cells #[.int .u32 g, .bool ex, .int .i64 left, .slice a n c] 28)) g' ex' left' a' n' c'
  rw [e1] at v2
  exact ⟨v0.keep _, v2, ((Below.refl _ w).alloc (Nat.le_refl _) _).alloc (by rw [e1]; omega) _⟩
theorem heldNe (x1 x2 y1 y2 : Int) (w : World) : (binOp .neq 86 (.agg #[.int .u32 x1, .int .i64 x2]) (.agg #[.int .u32 y1, .int .i64 y2])).run Tryz.prog w = .ok (.bool (!(decide (x1 = y1) && decide (x2 = y2)))) w := by
  by_cases h1 : x1 = y1
  · by_cases h2 : x2 = y2
    · subst h1 h2
      have e1 : (x1 == x1) = true := by simp
      have e2 : (x2 == x2) = true := by simp
      go_simp
    · have e1 : (x1 == y1) = true := by simpa using h1
      have e2 : (x2 == y2) = false := by simpa using h2
      go_simp
  · have e1 : (x1 == y1) = false := by simpa using h1
    go_simp
theorem heldEq (x1 x2 y1 y2 : Int) (w : World) : (binOp .eql 86 (.agg #[.int .u32 x1, .int .i64 x2]) (.agg #[.int .u32 y1, .int .i64 y2])).run Tryz.prog w = .ok (.bool (decide (x1 = y1) && decide (x2 = y2))) w := by
  by_cases h1 : x1 = y1
  · by_cases h2 : x2 = y2
    · subst h1 h2
      have e1 : (x1 == x1) = true := by simp
      have e2 : (x2 == x2) = true := by simp
      go_simp
    · have e1 : (x1 == y1) = true := by simpa using h1
      have e2 : (x2 == y2) = false := by simpa using h2
      go_simp
  · have e1 : (x1 == y1) = false := by simpa using h1
    go_simp
set_option maxRecDepth 100000 in
set_option maxHeartbeats 16000000 in
theorem rSame8 (g : Int) (ex : Bool) (left : Int) (a : Option Addr) (n c : Nat) (s : List Hd) (g' : Int) (ex' : Bool) (left' : Int) (a' : Option Addr) (n' c' : Nat) (s' : List Hd) (w : World) (hx : s.length = n) (hx' : s'.length = n') (hm : n ≤ 9223372036854775807) (hm' : n' ≤ 9223372036854775807) (hH : Hs w a s) (hH' : Hs w a' s') :
    Calls Tryz.prog 16 #[.agg #[.int .u32 g, .bool ex, .int .i64 left, .slice a n c], .agg #[.int .u32 g', .bool ex', .int .i64 left', .slice a' n' c']] w fun e w' => e = .returned (.bool (decide (g = g' ∧ ex = ex' ∧ left = left' ∧ s = s'))) ∧ Below w.heap.size w w' := by
  have HX := Lib.hid hx
  have HX' := Lib.hid hx'
  have HH := Lib.hid hH
  have HH' := Lib.hid hH'
  clear hx hx' hH hH'
  obtain ⟨w2, hw2⟩ : ∃ w2, w2 = (w.alloc (.cells #[.int .u32 g, .bool ex, .int .i64 left, .slice a n c] 28)).alloc (.cells #[.int .u32 g', .bool ex', .int .i64 left', .slice a' n' c'] 28) := ⟨_, rfl⟩
  obtain ⟨v0, v1, hb⟩ := mk2s w g ex left a n c g' ex' left' a' n' c' w2 hw2
  have HB := Lib.hid hb
  have V0 := Lib.hid v0
  have V1 := Lib.hid v1
  clear v0 v1 hb
  obtain ⟨R, hR⟩ : ∃ R, decide (g = g' ∧ ex = ex' ∧ left = left' ∧ s = s') = R := ⟨_, rfl⟩
  rw [hR]
  go_enter Tryz.func16, Tryz.ntmps16
  by_cases e1 : g = g'
  · by_cases e2 : ex = ex'
    · by_cases e3 : left = left'
      · by_cases e4 : n = n'
        · have HYES : Hid (s = s' → R = true) := Lib.hid (fun h => by rw [← hR]; exact decide_eq_true ⟨e1, e2, e3, h⟩)
          have HNO : Hid (s ≠ s' → R = false) := Lib.hid (fun h => by rw [← hR]; exact decide_eq_false fun k => h k.2.2.2)
          clear hR
          subst e1 e2 e3 e4
          cases ex
          · go_wp2
            rw [← hw2]
            clear hw2
            go_loopw [5] (fun v5 wr => ∃ k : Nat, v5 = .int .i64 (k : Int) ∧ k ≤ n ∧ s.take k = s'.take k ∧ Below w.heap.size w wr ∧ wr.cell? ⟨w.heap.size, 3, none⟩ = some (.slice a n c) ∧ wr.cell? ⟨w.heap.size + 1, 3, none⟩ = some (.slice a' n c')) (fun v _ => n - (intOf v).toNat)
            case atStart => exact ⟨0, rfl, by omega, by simp, HB.out, V0.out.cells.2.2.2.1, V1.out.cells.2.2.2.1⟩
            case round =>
              clear V0 V1 HB
              obtain ⟨k, rfl, hk, hpre, hB, c3, d3⟩ := hrel
              have HP := Lib.hid hpre
              have HB := Lib.hid hB
              have C3 := Lib.hid c3
              have D3 := Lib.hid d3
              clear hpre hB
              by_cases hlt : k < n
              · obtain ⟨b, off, rfl, hc⟩ := HH.out.at (k := k) (by rw [HX.out]; exact hlt)
                obtain ⟨b', off', rfl, hc'⟩ := HH'.out.at (k := k) (by rw [HX'.out]; omega)
                obtain ⟨⟨x1, x2⟩, hfk⟩ : ∃ x, s[k]? = some x := ⟨_, List.getElem?_eq_getElem (by rw [HX.out]; exact hlt)⟩
                obtain ⟨⟨y1, y2⟩, hfk'⟩ : ∃ x, s'[k]? = some x := ⟨_, List.getElem?_eq_getElem (by rw [HX'.out]; omega)⟩
                obtain ⟨p0, p1⟩ := (hc k _ hfk).below HB.out
                obtain ⟨q0, q1⟩ := (hc' k _ hfk').below HB.out
                simp only at p0 p1 q0 q1
                have HK := Lib.hid hfk
                have HK' := Lib.hid hfk'
                have t3 : ∀ q, (wr.drewN q).cell? ⟨w.heap.size, 3, none⟩ = some (.slice (some ⟨b, off, none⟩) n c) := fun q => c3
                have t4 : ∀ q, (wr.drewN q).cell? ⟨w.heap.size + 1, 3, none⟩ = some (.slice (some ⟨b', off', none⟩) n c') := fun q => d3
                have r0 : ∀ q, (wr.drewN q).cell? ⟨b, off + k * 2, none⟩ = some (.int .u32 x1) := fun q => p0
                have r1 : ∀ q, (wr.drewN q).cell? ⟨b, off + k * 2 + 1, none⟩ = some (.int .i64 x2) := fun q => p1
                have r2 : ∀ q, (wr.drewN q).cell? ⟨b', off' + k * 2, none⟩ = some (.int .u32 y1) := fun q => q0
                have r3 : ∀ q, (wr.drewN q).cell? ⟨b', off' + k * 2 + 1, none⟩ = some (.int .i64 y2) := fun q => q1
                have hne := heldNe x1 x2 y1 y2
                have hkz : (k : Int) < (n : Int) := by omega
                have hkz' : (k : Int) < (n : Int) := by omega
                have k0 : (0 : Int) ≤ (k : Int) := by omega
                clear hc hc' hfk hfk'
                obtain ⟨q, hq⟩ : ∃ q, (!(decide (x1 = y1) && decide (x2 = y2))) = q := ⟨_, rfl⟩
                rw [hq] at hne
                have HQ := Lib.hid hq
                clear hq
                cases q
                · go_wp2
                  go_quiet (fail)
                  go_wp2
                  go_roundw
                  case rel =>
                    have hxy : (x1, x2) = (y1, y2) := by have := HQ.out; simp only [Bool.not_eq_false', Bool.and_eq_true, decide_eq_true_eq] at this; rw [this.1, this.2]
                    exact ⟨k + 1, by go_num, by omega, by rw [takeH HK.out, takeH HK'.out, HP.out, hxy], bdrawn HB.out _, C3.out, D3.out⟩
                  case measure => simp [intOf]; omega
                · have HE : Hid (R = false) := Lib.hid (HNO.out fun h => by
                    have h4 := HK.out
                    rw [h, HK'.out] at h4
                    have h5 := HQ.out
                    simp only [Option.some.injEq, Prod.mk.injEq] at h4
                    rw [h4.1, h4.2] at h5
                    simp at h5)
                  go_wp2
                  go_quiet (fail)
                  go_wp2
                  go_ret
                  exact ⟨ret_bool HE.out.symm, bdrawn HB.out _⟩
              · obtain rfl : k = n := by omega
                have hs : s = s' := by
                  have h := HP.out
                  rwa [List.take_of_length_le (by rw [HX.out]; exact Nat.le_refl _), List.take_of_length_le (by rw [HX'.out]; omega)] at h
                have HE := Lib.hid (HYES.out hs)
                clear hs
                go_wp2_with fail
                go_ret
                exact ⟨ret_bool HE.out.symm, HB.out⟩
          · go_wp2
            rw [← hw2]
            clear hw2
            go_loopw [5] (fun v5 wr => ∃ k : Nat, v5 = .int .i64 (k : Int) ∧ k ≤ n ∧ s.take k = s'.take k ∧ Below w.heap.size w wr ∧ wr.cell? ⟨w.heap.size, 3, none⟩ = some (.slice a n c) ∧ wr.cell? ⟨w.heap.size + 1, 3, none⟩ = some (.slice a' n c')) (fun v _ => n - (intOf v).toNat)
            case atStart => exact ⟨0, rfl, by omega, by simp, HB.out, V0.out.cells.2.2.2.1, V1.out.cells.2.2.2.1⟩
            case round =>
              clear V0 V1 HB
              obtain ⟨k, rfl, hk, hpre, hB, c3, d3⟩ := hrel
              have HP := Lib.hid hpre
              have HB := Lib.hid hB
              have C3 := Lib.hid c3
              have D3 := Lib.hid d3
              clear hpre hB
              by_cases hlt : k < n
              · obtain ⟨b, off, rfl, hc⟩ := HH.out.at (k := k) (by rw [HX.out]; exact hlt)
                obtain ⟨b', off', rfl, hc'⟩ := HH'.out.at (k := k) (by rw [HX'.out]; omega)
                obtain ⟨⟨x1, x2⟩, hfk⟩ : ∃ x, s[k]? = some x := ⟨_, List.getElem?_eq_getElem (by rw [HX.out]; exact hlt)⟩
                obtain ⟨⟨y1, y2⟩, hfk'⟩ : ∃ x, s'[k]? = some x := ⟨_, List.getElem?_eq_getElem (by rw [HX'.out]; omega)⟩
                obtain ⟨p0, p1⟩ := (hc k _ hfk).below HB.out
                obtain ⟨q0, q1⟩ := (hc' k _ hfk').below HB.out
                simp only at p0 p1 q0 q1
                have HK := Lib.hid hfk
                have HK' := Lib.hid hfk'
                have t3 : ∀ q, (wr.drewN q).cell? ⟨w.heap.size, 3, none⟩ = some (.slice (some ⟨b, off, none⟩) n c) := fun q => c3
                have t4 : ∀ q, (wr.drewN q).cell? ⟨w.heap.size + 1, 3, none⟩ = some (.slice (some ⟨b', off', none⟩) n c') := fun q => d3
                have r0 : ∀ q, (wr.drewN q).cell? ⟨b, off + k * 2, none⟩ = some (.int .u32 x1) := fun q => p0
                have r1 : ∀ q, (wr.drewN q).cell? ⟨b, off + k * 2 + 1, none⟩ = some (.int .i64 x2) := fun q => p1
                have r2 : ∀ q, (wr.drewN q).cell? ⟨b', off' + k * 2, none⟩ = some (.int .u32 y1) := fun q => q0
                have r3 : ∀ q, (wr.drewN q).cell? ⟨b', off' + k * 2 + 1, none⟩ = some (.int .i64 y2) := fun q => q1
                have hne := heldNe x1 x2 y1 y2
                have hkz : (k : Int) < (n : Int) := by omega
                have hkz' : (k : Int) < (n : Int) := by omega
                have k0 : (0 : Int) ≤ (k : Int) := by omega
                clear hc hc' hfk hfk'
                obtain ⟨q, hq⟩ : ∃ q, (!(decide (x1 = y1) && decide (x2 = y2))) = q := ⟨_, rfl⟩
                rw [hq] at hne
                have HQ := Lib.hid hq
                clear hq
                cases q
                · go_wp2
                  go_quiet (fail)
                  go_wp2
                  go_roundw
                  case rel =>
                    have hxy : (x1, x2) = (y1, y2) := by have := HQ.out; simp only [Bool.not_eq_false', Bool.and_eq_true, decide_eq_true_eq] at this; rw [this.1, this.2]
                    exact ⟨k + 1, by go_num, by omega, by rw [takeH HK.out, takeH HK'.out, HP.out, hxy], bdrawn HB.out _, C3.out, D3.out⟩
                  case measure => simp [intOf]; omega
                · have HE : Hid (R = false) := Lib.hid (HNO.out fun h => by
                    have h4 := HK.out
                    rw [h, HK'.out] at h4
                    have h5 := HQ.out
                    simp only [Option.some.injEq, Prod.mk.injEq] at h4
                    rw [h4.1, h4.2] at h5
                    simp at h5)
                  go_wp2
                  go_quiet (fail)
                  go_wp2
                  go_ret
                  exact ⟨ret_bool HE.out.symm, bdrawn HB.out _⟩
              · obtain rfl : k = n := by omega
                have hs : s = s' := by
                  have h := HP.out
                  rwa [List.take_of_length_le (by rw [HX.out]; exact Nat.le_refl _), List.take_of_length_le (by rw [HX'.out]; omega)] at h
                have HE := Lib.hid (HYES.out hs)
                clear hs
                go_wp2_with fail
                go_ret
                exact ⟨ret_bool HE.out.symm, HB.out⟩
        · have HE : Hid (R = false) := Lib.hid (by rw [← hR]; exact decide_eq_false fun h => e4 (by rw [← HX.out, ← HX'.out, h.2.2.2]))
          clear hR
          subst e1 e2 e3
          have e4' : ((n : Int) == (n' : Int)) = false := beq_eq_false_iff_ne.2 (by omega)
          clear e4
          cases ex
          all_goals
            go_wp2
            go_ret
            exact ⟨ret_bool HE.out.symm, hw2 ▸ HB.out⟩
      · have HE : Hid (R = false) := Lib.hid (by rw [← hR]; exact decide_eq_false fun h => e3 h.2.2.1)
        clear hR
        subst e1 e2
        have e3' : (left == left') = false := by simpa using e3
        clear e3
        cases ex
        all_goals
          go_wp2
          go_ret
          exact ⟨ret_bool HE.out.symm, hw2 ▸ HB.out⟩
    · have HE : Hid (R = false) := Lib.hid (by rw [← hR]; exact decide_eq_false fun h => e2 h.2.1)
      clear hR
      subst e1
      cases ex <;> cases ex'
      all_goals first
        | (exfalso; exact e2 rfl)
        | (go_wp2
           go_ret
           exact ⟨ret_bool HE.out.symm, hw2 ▸ HB.out⟩)
  · have HE : Hid (R = false) := Lib.hid (by rw [← hR]; exact decide_eq_false fun h => e1 h.1)
    clear hR
    have e1' : (g != g') = true := by simpa using e1
    clear e1
    go_wp2
    go_ret
    exact ⟨ret_bool HE.out.symm, hw2 ▸ HB.out⟩
end Go.Proofs.YtiabbkjmgaemaaaGreat
