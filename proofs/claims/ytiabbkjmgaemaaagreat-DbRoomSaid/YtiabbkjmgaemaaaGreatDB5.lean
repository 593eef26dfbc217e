/- Package set's iterator: two rows gone through at once. -/
import Derived.Test.YtiabbkjmgaemaaaGreatDB0
import Derived.Test.YtiabbkjmgaemaaaGreatDB1
import Derived.Test.YtiabbkjmgaemaaaGreatDB2
import Derived.Test.YtiabbkjmgaemaaaGreatDB3
import Derived.Test.YtiabbkjmgaemaaaGreatDB4
import Derived.RangeFuncNested
import Derived.RangeFuncBound
import Derived.RangeFuncCalls
import Derived.RangeFuncLeaves
import Derived.RangeFuncBox
import Derived.Shelf.Abstract
import Derived.Shelf.RegionOpen
import Derived.WalkKit
import Derived.OwnWalkIn
import Derived.TacticsInMore
import Derived.LoopNIn
import Derived.LoopIn
import Derived.Maps.AppendAt
import Derived.Test.YtiabbkjmgaemaaaGreatLaid
namespace Go.Proofs.YtiabbkjmgaemaaaGreat
set_option linter.unusedVariables false
open Go.RowKit Go.Shelf
attribute [local go_sem] Oper.semAt_some

abbrev Z3 := Int × Bool × Bool
/-- What a round keeps: what lay below n₀, and the boxes of the two rows. -/
def Kp2 (n₀ Ba Bb : Nat) (W W' : World) : Prop := Below n₀ W W' ∧ (∀ v, W.cell? ⟨Ba, 0, none⟩ = some v → W'.cell? ⟨Ba, 0, none⟩ = some v) ∧ ∀ v, W.cell? ⟨Bb, 0, none⟩ = some v → W'.cell? ⟨Bb, 0, none⟩ = some v
theorem kp2_r {n₀ Ba Bb : Nat} {A : World} : Kp2 n₀ Ba Bb A A := ⟨Below.refl _ _, fun _ h => h, fun _ h => h⟩
theorem kp2_t {n₀ Ba Bb : Nat} {A B C : World} (h : Kp2 n₀ Ba Bb A B) (k : Kp2 n₀ Ba Bb B C) : Kp2 n₀ Ba Bb A C := ⟨h.1.trans k.1, fun v e => k.2.1 v (h.2.1 v e), fun v e => k.2.2 v (h.2.2 v e)⟩
theorem kp2_b {n₀ Ba Bb : Nat} {w : World} (hn : n₀ ≤ w.heap.size) (W : World) (l : Nat) (o o' : Obj) (hl : w.heap.size ≤ l) (h : W.heap[l]? = some o) (hc : o.isCells = false) (hw : o.isWalk = false) : Kp2 n₀ Ba Bb W (W.putObj l o') :=
  ⟨belowK_b hn W l o o' hl h hc hw, fun v e => cell_kept e (grownBy_putObj' W l o') (fun r e' => by cases e'; exact ⟨o, h, hc⟩), fun v e => cell_kept e (grownBy_putObj' W l o') (fun r e' => by cases e'; exact ⟨o, h, hc⟩)⟩
theorem kp2_below {n₀ Ba Bb : Nat} {A B C : World} (h : Kp2 n₀ Ba Bb A B) (hn : n₀ ≤ B.heap.size) (hb : Below B.heap.size B C) : Kp2 n₀ Ba Bb A C :=
  kp2_t h ⟨hb.mono hn, fun v e => (hb.cell (p := ⟨Ba, 0, none⟩) (cell_lt e)).trans e, fun v e => (hb.cell (p := ⟨Bb, 0, none⟩) (cell_lt e)).trans e⟩
theorem grown_of_below {A B : World} (h : Below A.heap.size A B) : A.grownBy B none := ⟨h.os, h.tape, h.output, h.size, fun k hk _ => h.block k hk⟩
theorem drop_cons {l : List Int} {i : Nat} (h : i < l.length) : l.drop i = l.getD i 0 :: l.drop (i + 1) := by
  rw [List.drop_eq_getElem_cons h, List.getD_eq_getElem?_getD, List.getElem?_eq_getElem h]; rfl
theorem drop_end {l : List Int} {i : Nat} (h : l.length ≤ i) : l.drop i = [] := List.drop_eq_nil_of_le h
theorem ev {a : Act} {t : Nat} {v : Value} (h : a.eval (.tmp t) = v) : a.tmps[t]?.getD undef = v := by simpa [Act.eval] using h
/-- What is known behind operation i of the region that tells in which rows a number is. -/
def tV (N : Nat) (vals : Nat → Value) (p q : Bool) : Nat → Value → List Value → World → Prop
  | 43, v, _, w => ∃ B, v = .pointer (some ⟨B, 0, none⟩) ∧ N ≤ B ∧ ∃ c : Array Value, w.heap[B]? = some (.cells c 177 (0, 0)) ∧ c.size = 2
  | 44, _, us, w => ∃ B u, us = [.pointer (some ⟨B, 0, none⟩), u] ∧ N ≤ B ∧ w.heap[B]? = some (.cells #[.bool p, .bool q] 177 (0, 0))
  | i, v, _, _ => v = vals i
def tR (N j : Nat) (w w' : World) : Prop := (j = 44 ∨ Below w.heap.size w w') ∧ ∀ B (c : Array Value), N ≤ B → w.heap[B]? = some (.cells c 177 (0, 0)) → c.size = 2 → ∃ c' : Array Value, w'.heap[B]? = some (.cells c' 177 (0, 0)) ∧ c'.size = 2
theorem tR_r (N j : Nat) (w : World) : tR N j w w := ⟨.inr (Below.refl _ _), fun B c _ h1 h2 => ⟨c, h1, h2⟩⟩
theorem tV_stable {N : Nat} {vals : Nat → Value} {p q : Bool} {i j : Nat} {v : Value} {us : List Value} {w w' : World} (hij : i ≠ j) (hr : tR N j w w') (hv : tV N vals p q i v us w) : tV N vals p q i v us w' := by
  unfold tV at hv ⊢
  split at hv
  · obtain ⟨B, e, hB, c, h1, h2⟩ := hv
    obtain ⟨c', h3, h4⟩ := hr.2 B c hB h1 h2
    exact ⟨B, e, hB, c', h3, h4⟩
  · obtain ⟨B, u, e, hB, h1⟩ := hv
    refine ⟨B, u, e, hB, ?_⟩
    rcases hr.1 with e2 | hb
    · exact absurd e2.symm hij
    · rw [hb.block B (Array.getElem?_eq_some_iff.1 h1).1]; exact h1
  · exact hv
theorem two_cells {w : World} {B : Nat} {c0 c1 : Value} (h : w.heap[B]? = some (.cells #[c0, c1] 177 (0, 0))) (u v : Value) :
    w.cell? ⟨B, 0, none⟩ = some c0 ∧ w.cell? ⟨B, 1, none⟩ = some c1 ∧ w.frozen? ⟨B, 0, none⟩ = false ∧ w.frozen? ⟨B, 1, none⟩ = false ∧ ((w.setCell ⟨B, 0, none⟩ u).setCell ⟨B, 1, none⟩ v).heap[B]? = some (.cells #[u, v] 177 (0, 0)) := by
  simp [World.cell?, World.frozen?, World.setCell, Array.getElem?_modify, h]
def tD : Nat → List Nat
  | 2 => [1] | 3 => [0, 2] | 4 => [3] | 5 => [4] | 6 => [4] | 7 => [6, 4] | 8 => [5, 7, 4] | 9 => [8, 4] | 10 => [9] | 11 => [9] | 12 => [10, 11, 9] | 13 => [12, 9] | 14 => [9] | 15 => [9] | 16 => [14, 15, 9] | 17 => [16, 9] | 18 => [13, 17, 9] | 19 => [9, 18, 4] | 20 => [4, 19]
  | 23 => [22] | 24 => [21, 23] | 25 => [24] | 26 => [25] | 27 => [25] | 28 => [27, 25] | 29 => [26, 28, 25] | 30 => [29, 25] | 31 => [30] | 32 => [30] | 33 => [31, 32, 30] | 34 => [33, 30] | 35 => [30] | 36 => [30] | 37 => [35, 36, 30] | 38 => [37, 30] | 39 => [34, 38, 30] | 40 => [30, 39, 25] | 41 => [25, 40]
  | 42 => [20, 41] | 44 => [43, 42] | _ => []
def tG : List (Option (Nat × Bool)) := [none, none, none, none, none, some (4, false), some (4, false), some (4, false), some (4, false), some (4, false), some (9, true), some (9, true), some (9, true), some (9, true), some (9, true), some (9, true), some (9, true), some (9, true), some (9, true), some (4, false), none, none, none, none, none, none, some (25, false), some (25, false), some (25, false), some (25, false), some (25, false), some (30, true), some (30, true), some (30, true), some (30, true), some (30, true), some (30, true), some (30, true), some (30, true), some (30, true), some (25, false), none, none, none, none]
theorem guard_some {ops : Array Oper} (hg : ops.toList.map (·.guard) = tG) {i : Nat} {o : Oper} (ho : ops[i]? = some o) (h : ((tG[i]?).bind id).isSome = true) : ∃ g b, o.guard = some (g, b) := by
  rw [← hg, List.getElem?_map, Array.getElem?_toList, ho] at h
  simp at h
  obtain ⟨⟨g, b⟩, e⟩ := Option.isSome_iff_exists.1 h
  exact ⟨g, b, e⟩
theorem tG_cases : ∀ o ∈ tG, o = none ∨ o = some (4, false) ∨ o = some (9, true) ∨ o = some (25, false) ∨ o = some (30, true) := by decide
theorem guard_of {ops : Array Oper} (hg : ops.toList.map (·.guard) = tG) {i : Nat} {o : Oper} {gb : Nat × Bool} (ho : ops[i]? = some o) (h : o.guard = some gb) : tG[i]? = some (some gb) := by
  rw [← hg, List.getElem?_map, Array.getElem?_toList, ho]
  simp [h]

def valX (i j la lb ca cb ga oa gb ob : Nat) (x y : Int) : Nat → Value
  | 0 => .int .i64 (j : Nat)
  | 1 => .slice (some ⟨gb, ob, none⟩) lb cb
  | 2 => .int .i64 (lb : Nat)
  | 3 => .bool false
  | 4 => .bool false
  | 5 => .int .i64 (i : Nat)
  | 6 => .slice (some ⟨ga, oa, none⟩) la ca
  | 7 => .int .i64 (la : Nat)
  | 8 => .bool true
  | 9 => .bool true
  | 10 => .slice (some ⟨ga, oa, none⟩) la ca
  | 11 => .int .i64 (i : Nat)
  | 12 => .pointer (some ⟨ga, oa + i, none⟩)
  | 13 => .int .u32 x
  | 14 => .slice (some ⟨gb, ob, none⟩) lb cb
  | 15 => .int .i64 (j : Nat)
  | 16 => .pointer (some ⟨gb, ob + j, none⟩)
  | 17 => .int .u32 y
  | 18 => .bool (decide (x ≤ y))
  | 19 => .bool (decide (x ≤ y))
  | 20 => .bool (decide (x ≤ y))
  | 21 => .int .i64 (i : Nat)
  | 22 => .slice (some ⟨ga, oa, none⟩) la ca
  | 23 => .int .i64 (la : Nat)
  | 24 => .bool false
  | 25 => .bool false
  | 26 => .int .i64 (j : Nat)
  | 27 => .slice (some ⟨gb, ob, none⟩) lb cb
  | 28 => .int .i64 (lb : Nat)
  | 29 => .bool true
  | 30 => .bool true
  | 31 => .slice (some ⟨gb, ob, none⟩) lb cb
  | 32 => .int .i64 (j : Nat)
  | 33 => .pointer (some ⟨gb, ob + j, none⟩)
  | 34 => .int .u32 y
  | 35 => .slice (some ⟨ga, oa, none⟩) la ca
  | 36 => .int .i64 (i : Nat)
  | 37 => .pointer (some ⟨ga, oa + i, none⟩)
  | 38 => .int .u32 x
  | 39 => .bool (decide (y ≤ x))
  | 40 => .bool (decide (y ≤ x))
  | 41 => .bool (decide (y ≤ x))
  | 42 => .agg #[.bool (decide (x ≤ y)), .bool (decide (y ≤ x))]
  | _ => undef
def runX (i : Nat) : Bool := !([] : List Nat).contains i
def valY (i j la lb ca cb ga oa : Nat) (b : Option Addr) : Nat → Value
  | 0 => .int .i64 (j : Nat)
  | 1 => .slice b lb cb
  | 2 => .int .i64 (lb : Nat)
  | 3 => .bool true
  | 4 => .bool true
  | 20 => .bool true
  | 21 => .int .i64 (i : Nat)
  | 22 => .slice (some ⟨ga, oa, none⟩) la ca
  | 23 => .int .i64 (la : Nat)
  | 24 => .bool false
  | 25 => .bool false
  | 26 => .int .i64 (j : Nat)
  | 27 => .slice b lb cb
  | 28 => .int .i64 (lb : Nat)
  | 29 => .bool false
  | 30 => .bool false
  | 40 => .bool false
  | 41 => .bool false
  | 42 => .agg #[.bool true, .bool false]
  | _ => undef
def runY (i : Nat) : Bool := !([5, 6, 7, 8, 9, 10, 11, 12, 13, 14, 15, 16, 17, 18, 19, 31, 32, 33, 34, 35, 36, 37, 38, 39] : List Nat).contains i
def valZ (i j la lb ca cb gb ob : Nat) (a : Option Addr) : Nat → Value
  | 0 => .int .i64 (j : Nat)
  | 1 => .slice (some ⟨gb, ob, none⟩) lb cb
  | 2 => .int .i64 (lb : Nat)
  | 3 => .bool false
  | 4 => .bool false
  | 5 => .int .i64 (i : Nat)
  | 6 => .slice a la ca
  | 7 => .int .i64 (la : Nat)
  | 8 => .bool false
  | 9 => .bool false
  | 19 => .bool false
  | 20 => .bool false
  | 21 => .int .i64 (i : Nat)
  | 22 => .slice a la ca
  | 23 => .int .i64 (la : Nat)
  | 24 => .bool true
  | 25 => .bool true
  | 41 => .bool true
  | 42 => .agg #[.bool false, .bool true]
  | _ => undef
def runZ (i : Nat) : Bool := !([10, 11, 12, 13, 14, 15, 16, 17, 18, 26, 27, 28, 29, 30, 31, 32, 33, 34, 35, 36, 37, 38, 39, 40] : List Nat).contains i
set_option maxRecDepth 100000 in
set_option maxHeartbeats 4000000 in
theorem thr1_in (n : Nat) (hn : 1 ≤ n) (l Ba Bb n₀ la lb ca cb : Nat) (a b : Option Addr) (xs ys : List Int) (hx : xs.length = la) (hy : ys.length = lb) (hla : la ≤ 1000000) (hlb : lb ≤ 1000000)
    (J Jx : List Z3 → World → Prop) (W : World) (hJ : AbidesFrom W.heap.size J) (hW : n₀ ≤ W.heap.size)
    (hY : ∀ pre x W, J pre W → pre.length < (thr xs ys).length → YieldAt Fence.wide (n - 1) Tryz.prog l #[.int .u32 x.1, .agg #[.bool x.2.1, .bool x.2.2]] W fun e W' =>
      (e = .returned (.bool true) ∧ J (pre ++ [x]) W' ∧ Kp2 n₀ Ba Bb W W') ∨ (e = .returned (.bool false) ∧ Jx (pre ++ [x]) W'))
    (hA : W.cell? ⟨Ba, 0, none⟩ = some (.slice a la ca)) (hB : W.cell? ⟨Bb, 0, none⟩ = some (.slice b lb cb))
    (hxs : xs = [] ∨ ∃ g off, a = some ⟨g, off, none⟩ ∧ g < n₀ ∧ ∀ k, k < la → W.cell? ⟨g, off + k, none⟩ = some (.int .u32 (xs.getD k 0)))
    (hys : ys = [] ∨ ∃ g off, b = some ⟨g, off, none⟩ ∧ g < n₀ ∧ ∀ k, k < lb → W.cell? ⟨g, off + k, none⟩ = some (.int .u32 (ys.getD k 0))) (h0 : J [] W) :
    CallsIn Fence.wide n Tryz.prog 181 #[.func (.yield l) #[] #[], .pointer (some ⟨Ba, 0, none⟩), .pointer (some ⟨Bb, 0, none⟩)] W fun e W' => (∃ v, e = .returned v) ∧
      ((∃ zs, zs = thr xs ys ∧ J zs W') ∨ (∃ pre, True ∧ Jx pre W')) := by
  have HX := Lib.hid hx
  have HY := Lib.hid hy
  have HA := Lib.hid hA
  have HB := Lib.hid hB
  have HXS := Lib.hid hxs
  have HYS := Lib.hid hys
  have HJ := Lib.hid hJ
  clear hx hy hA hB hxs hys hJ
  refine callsIn_of_wp Tryz.func181 rfl trivial ?_ rfl
  simp only [Tryz.ntmps181, List.size_toArray, List.length_cons, List.length_nil, Nat.reduceAdd, Nat.reduceSub, Array.replicate_succ, Array.replicate_zero, List.push_toArray, List.append_toArray, List.nil_append, List.cons_append]
  gi_wp2
  gi_loopw [4, 5] (fun v4 v5 wr => ∃ (i j : Nat) (pre : List Z3), v4 = .int .i64 (i : Int) ∧ v5 = .int .i64 (j : Int) ∧ i ≤ la ∧ j ≤ lb ∧ pre ++ thr (xs.drop i) (ys.drop j) = thr xs ys ∧ J pre wr ∧ Kp2 n₀ Ba Bb W wr ∧ W.heap.size ≤ wr.heap.size)
    (fun v4 v5 _ => la + lb - (intOf v4).toNat - (intOf v5).toNat)
  case atStart => exact ⟨0, 0, [], rfl, rfl, by omega, by omega, by simp, h0, kp2_r, Nat.le_refl _⟩
  case round =>
    obtain ⟨i, j, pre, rfl, rfl, hi, hj, hpre, hJs, hk, hsz⟩ := hrel
    have HK := Lib.hid hk
    have HP := Lib.hid hpre
    have HJS := Lib.hid hJs
    have bA : wr.cell? ⟨Ba, 0, none⟩ = some (.slice a la ca) := hk.2.1 _ HA.out
    have bB : wr.cell? ⟨Bb, 0, none⟩ = some (.slice b lb cb) := hk.2.2 _ HB.out
    clear hk hpre hJs
    by_cases hil : i < la
    · rcases HXS.out with e | ⟨ga, oa, rfl, hga, hca⟩
      · have := HX.out; rw [e] at this; simp at this; omega
      · have cx : wr.cell? ⟨ga, oa + i, none⟩ = some (.int .u32 (xs.getD i 0)) := (HK.out.1.cell (p := ⟨ga, oa + i, none⟩) hga).trans (hca i hil)
        have hiz : (i : Int) < (la : Int) := by omega
        have hine : ((i : Int) == (la : Int)) = false := by simp; omega
        clear hca
        by_cases hjl : j < lb
        · rcases HYS.out with e | ⟨gb, ob, rfl, hgb, hcb⟩
          · have := HY.out; rw [e] at this; simp at this; omega
          · have cy : wr.cell? ⟨gb, ob + j, none⟩ = some (.int .u32 (ys.getD j 0)) := (HK.out.1.cell (p := ⟨gb, ob + j, none⟩) hgb).trans (hcb j hjl)
            clear hcb
            have hjne : ((j : Int) == (lb : Int)) = false := by simp; omega
            have hjz : (j : Int) < (lb : Int) := by omega
            generalize hxv : xs.getD i 0 = x at *
            generalize hyv : ys.getD j 0 = y at *
            have HXV := Lib.hid hxv
            have HYV := Lib.hid hyv
            clear hxv hyv
            gi_wp2
            refine wpIn_wide.2 ?_
            refine wp_region_each4 (tV wr.heap.size (valX i j la lb ca cb ga oa gb ob x y) (decide (x ≤ y)) (decide (y ≤ x))) (fun w2 => Below wr.heap.size wr w2) (tR wr.heap.size) tD runX [18, 19, 20, 21, 22, 23, 24, 25, 26, 27, 28, 29, 30, 31, 32, 33, 34, 35, 36, 37, 38, 39, 40, 41, 42, 43, 44, 45, 46, 47, 48, 49, 50, 51, 52, 53, 54, 55, 56, 57, 58, 59, 60, 6] (by kernel_rfl) (by kernel_rfl) (by kernel_rfl) (Below.refl _ wr).drew
              (fun i j oi oj v us A B hoi hoj hij hw hSA hr hv => tV_stable hij hr hv) ?hgd ?hng ?hsk
              ⟨?_, ?_, ?_, ?_, ?_, ?_, ?_, ?_, ?_, ?_, ?_, ?_, ?_, ?_, ?_, ?_, ?_, ?_, ?_, ?_, ?_, ?_, ?_, ?_, ?_, ?_, ?_, ?_, ?_, ?_, ?_, ?_, ?_, ?_, ?_, ?_, ?_, ?_, ?_, ?_, ?_, ?_, ?_, ?_, ?_, trivial⟩ ?hend
            case hgd =>
              intro i o g b ho hg v us w2 hv
              have h1 := guard_of (by kernel_rfl) ho hg
              have hi : i ∈ List.range 45 := List.mem_range.2 (by
                have h3 := (List.getElem?_eq_some_iff.1 h1).1
                have h4 : tG.length = 45 := by kernel_rfl
                omega)
              rcases tG_cases _ (List.mem_of_getElem? h1) with e | e | e | e | e
              · cases e
              · cases e
                have hr := (by decide : ∀ i ∈ List.range 45, tG[i]? = some (some (4, false)) → runX i = true) i hi h1
                have hv' : v = (.bool false : Value) := hv
                rw [hr, if_pos rfl, hv']
              · cases e
                have hr := (by decide : ∀ i ∈ List.range 45, tG[i]? = some (some (9, true)) → runX i = true) i hi h1
                have hv' : v = (.bool true : Value) := hv
                rw [hr, if_pos rfl, hv']
              · cases e
                have hr := (by decide : ∀ i ∈ List.range 45, tG[i]? = some (some (25, false)) → runX i = true) i hi h1
                have hv' : v = (.bool false : Value) := hv
                rw [hr, if_pos rfl, hv']
              · cases e
                have hr := (by decide : ∀ i ∈ List.range 45, tG[i]? = some (some (30, true)) → runX i = true) i hi h1
                have hv' : v = (.bool true : Value) := hv
                rw [hr, if_pos rfl, hv']
            case hng =>
              intro i o ho hr
              have hi : i ∈ List.range 45 := List.mem_range.2 (Array.getElem?_eq_some_iff.1 ho).1
              have h1 := (by decide : ∀ i ∈ List.range 45, runX i = false → ((tG[i]?).bind id).isSome = true) i hi hr
              exact guard_some (by kernel_rfl) ho h1
            case hsk =>
              intro i us w2 hr _
              cases hr
            case refine_1 =>
              intro _ ac w2 hS h0 hd
              have o5 : ac.tmps[5]?.getD undef = .int .i64 (j : Nat) := ev (h0 5 (by kernel_rfl))
              refine Does2.value (.int .i64 (j : Nat)) (w' := w2) ?_ ⟨rfl, hS, tR_r _ _ _⟩
              clear hS h0 hd
              go_simp
            case refine_2 =>
              intro _ ac w2 hS h0 hd
              have o2 : ac.tmps[2]?.getD undef = .pointer (some ⟨Bb, 0, none⟩) := ev (h0 2 (by kernel_rfl))
              have ck := (hS.cell (cell_lt bB)).trans bB
              refine Does2.value (.slice (some ⟨gb, ob, none⟩) lb cb) (w' := w2) ?_ ⟨rfl, hS, tR_r _ _ _⟩
              clear hS h0 hd
              go_simp
            case refine_3 =>
              intro _ ac w2 hS h0 hd
              have d1 : ac.tmps[19]?.getD undef = .slice (some ⟨gb, ob, none⟩) lb cb := ev (hd 1 List.mem_cons_self)
              refine Does2.value (.int .i64 (lb : Nat)) (w' := w2) ?_ ⟨rfl, hS, tR_r _ _ _⟩
              clear hS h0 hd
              go_simp
            case refine_4 =>
              intro _ ac w2 hS h0 hd
              have d0 : ac.tmps[18]?.getD undef = .int .i64 (j : Nat) := ev (hd 0 List.mem_cons_self)
              have d2 : ac.tmps[20]?.getD undef = .int .i64 (lb : Nat) := ev (hd 2 (List.mem_cons_of_mem _ List.mem_cons_self))
              refine Does2.value (.bool false) (w' := w2) ?_ ⟨rfl, hS, tR_r _ _ _⟩
              clear hS h0 hd
              go_simp
            case refine_5 =>
              intro _ ac w2 hS h0 hd
              have d3 : ac.tmps[21]?.getD undef = .bool false := ev (hd 3 List.mem_cons_self)
              refine Does2.value (.bool false) (w' := w2) ?_ ⟨rfl, hS, tR_r _ _ _⟩
              clear hS h0 hd
              go_simp
            case refine_6 =>
              intro _ ac w2 hS h0 hd
              have o4 : ac.tmps[4]?.getD undef = .int .i64 (i : Nat) := ev (h0 4 (by kernel_rfl))
              have d4 : ac.tmps[22]?.getD undef = .bool false := ev (hd 4 List.mem_cons_self)
              refine Does2.value (.int .i64 (i : Nat)) (w' := w2) ?_ ⟨rfl, hS, tR_r _ _ _⟩
              clear hS h0 hd
              go_simp
            case refine_7 =>
              intro _ ac w2 hS h0 hd
              have o1 : ac.tmps[1]?.getD undef = .pointer (some ⟨Ba, 0, none⟩) := ev (h0 1 (by kernel_rfl))
              have d4 : ac.tmps[22]?.getD undef = .bool false := ev (hd 4 List.mem_cons_self)
              have ck := (hS.cell (cell_lt bA)).trans bA
              refine Does2.value (.slice (some ⟨ga, oa, none⟩) la ca) (w' := w2) ?_ ⟨rfl, hS, tR_r _ _ _⟩
              clear hS h0 hd
              go_simp
            case refine_8 =>
              intro _ ac w2 hS h0 hd
              have d6 : ac.tmps[24]?.getD undef = .slice (some ⟨ga, oa, none⟩) la ca := ev (hd 6 List.mem_cons_self)
              have d4 : ac.tmps[22]?.getD undef = .bool false := ev (hd 4 (List.mem_cons_of_mem _ List.mem_cons_self))
              refine Does2.value (.int .i64 (la : Nat)) (w' := w2) ?_ ⟨rfl, hS, tR_r _ _ _⟩
              clear hS h0 hd
              go_simp
            case refine_9 =>
              intro _ ac w2 hS h0 hd
              have d5 : ac.tmps[23]?.getD undef = .int .i64 (i : Nat) := ev (hd 5 List.mem_cons_self)
              have d7 : ac.tmps[25]?.getD undef = .int .i64 (la : Nat) := ev (hd 7 (List.mem_cons_of_mem _ List.mem_cons_self))
              have d4 : ac.tmps[22]?.getD undef = .bool false := ev (hd 4 (List.mem_cons_of_mem _ (List.mem_cons_of_mem _ List.mem_cons_self)))
              refine Does2.value (.bool true) (w' := w2) ?_ ⟨rfl, hS, tR_r _ _ _⟩
              clear hS h0 hd
              go_simp
            case refine_10 =>
              intro _ ac w2 hS h0 hd
              have d8 : ac.tmps[26]?.getD undef = .bool true := ev (hd 8 List.mem_cons_self)
              have d4 : ac.tmps[22]?.getD undef = .bool false := ev (hd 4 (List.mem_cons_of_mem _ List.mem_cons_self))
              refine Does2.value (.bool true) (w' := w2) ?_ ⟨rfl, hS, tR_r _ _ _⟩
              clear hS h0 hd
              go_simp
            case refine_11 =>
              intro _ ac w2 hS h0 hd
              have o1 : ac.tmps[1]?.getD undef = .pointer (some ⟨Ba, 0, none⟩) := ev (h0 1 (by kernel_rfl))
              have d9 : ac.tmps[27]?.getD undef = .bool true := ev (hd 9 List.mem_cons_self)
              have ck := (hS.cell (cell_lt bA)).trans bA
              refine Does2.value (.slice (some ⟨ga, oa, none⟩) la ca) (w' := w2) ?_ ⟨rfl, hS, tR_r _ _ _⟩
              clear hS h0 hd
              go_simp
            case refine_12 =>
              intro _ ac w2 hS h0 hd
              have o4 : ac.tmps[4]?.getD undef = .int .i64 (i : Nat) := ev (h0 4 (by kernel_rfl))
              have d9 : ac.tmps[27]?.getD undef = .bool true := ev (hd 9 List.mem_cons_self)
              refine Does2.value (.int .i64 (i : Nat)) (w' := w2) ?_ ⟨rfl, hS, tR_r _ _ _⟩
              clear hS h0 hd
              go_simp
            case refine_13 =>
              intro _ ac w2 hS h0 hd
              have d10 : ac.tmps[28]?.getD undef = .slice (some ⟨ga, oa, none⟩) la ca := ev (hd 10 List.mem_cons_self)
              have d11 : ac.tmps[29]?.getD undef = .int .i64 (i : Nat) := ev (hd 11 (List.mem_cons_of_mem _ List.mem_cons_self))
              have d9 : ac.tmps[27]?.getD undef = .bool true := ev (hd 9 (List.mem_cons_of_mem _ (List.mem_cons_of_mem _ List.mem_cons_self)))
              refine Does2.value (.pointer (some ⟨ga, oa + i, none⟩)) (w' := w2) ?_ ⟨rfl, hS, tR_r _ _ _⟩
              clear hS h0 hd
              go_simp
            case refine_14 =>
              intro _ ac w2 hS h0 hd
              have d12 : ac.tmps[30]?.getD undef = .pointer (some ⟨ga, oa + i, none⟩) := ev (hd 12 List.mem_cons_self)
              have d9 : ac.tmps[27]?.getD undef = .bool true := ev (hd 9 (List.mem_cons_of_mem _ List.mem_cons_self))
              have ck := (hS.cell (cell_lt cx)).trans cx
              refine Does2.value (.int .u32 x) (w' := w2) ?_ ⟨rfl, hS, tR_r _ _ _⟩
              clear hS h0 hd
              go_simp
            case refine_15 =>
              intro _ ac w2 hS h0 hd
              have o2 : ac.tmps[2]?.getD undef = .pointer (some ⟨Bb, 0, none⟩) := ev (h0 2 (by kernel_rfl))
              have d9 : ac.tmps[27]?.getD undef = .bool true := ev (hd 9 List.mem_cons_self)
              have ck := (hS.cell (cell_lt bB)).trans bB
              refine Does2.value (.slice (some ⟨gb, ob, none⟩) lb cb) (w' := w2) ?_ ⟨rfl, hS, tR_r _ _ _⟩
              clear hS h0 hd
              go_simp
            case refine_16 =>
              intro _ ac w2 hS h0 hd
              have o5 : ac.tmps[5]?.getD undef = .int .i64 (j : Nat) := ev (h0 5 (by kernel_rfl))
              have d9 : ac.tmps[27]?.getD undef = .bool true := ev (hd 9 List.mem_cons_self)
              refine Does2.value (.int .i64 (j : Nat)) (w' := w2) ?_ ⟨rfl, hS, tR_r _ _ _⟩
              clear hS h0 hd
              go_simp
            case refine_17 =>
              intro _ ac w2 hS h0 hd
              have d14 : ac.tmps[32]?.getD undef = .slice (some ⟨gb, ob, none⟩) lb cb := ev (hd 14 List.mem_cons_self)
              have d15 : ac.tmps[33]?.getD undef = .int .i64 (j : Nat) := ev (hd 15 (List.mem_cons_of_mem _ List.mem_cons_self))
              have d9 : ac.tmps[27]?.getD undef = .bool true := ev (hd 9 (List.mem_cons_of_mem _ (List.mem_cons_of_mem _ List.mem_cons_self)))
              refine Does2.value (.pointer (some ⟨gb, ob + j, none⟩)) (w' := w2) ?_ ⟨rfl, hS, tR_r _ _ _⟩
              clear hS h0 hd
              go_simp
            case refine_18 =>
              intro _ ac w2 hS h0 hd
              have d16 : ac.tmps[34]?.getD undef = .pointer (some ⟨gb, ob + j, none⟩) := ev (hd 16 List.mem_cons_self)
              have d9 : ac.tmps[27]?.getD undef = .bool true := ev (hd 9 (List.mem_cons_of_mem _ List.mem_cons_self))
              have ck := (hS.cell (cell_lt cy)).trans cy
              refine Does2.value (.int .u32 y) (w' := w2) ?_ ⟨rfl, hS, tR_r _ _ _⟩
              clear hS h0 hd
              go_simp
            case refine_19 =>
              intro _ ac w2 hS h0 hd
              have d13 : ac.tmps[31]?.getD undef = .int .u32 x := ev (hd 13 List.mem_cons_self)
              have d17 : ac.tmps[35]?.getD undef = .int .u32 y := ev (hd 17 (List.mem_cons_of_mem _ List.mem_cons_self))
              have d9 : ac.tmps[27]?.getD undef = .bool true := ev (hd 9 (List.mem_cons_of_mem _ (List.mem_cons_of_mem _ List.mem_cons_self)))
              refine Does2.value (.bool (decide (x ≤ y))) (w' := w2) ?_ ⟨rfl, hS, tR_r _ _ _⟩
              clear hS h0 hd
              go_simp
            case refine_20 =>
              intro _ ac w2 hS h0 hd
              have d9 : ac.tmps[27]?.getD undef = .bool true := ev (hd 9 List.mem_cons_self)
              have d18 : ac.tmps[36]?.getD undef = .bool (decide (x ≤ y)) := ev (hd 18 (List.mem_cons_of_mem _ List.mem_cons_self))
              have d4 : ac.tmps[22]?.getD undef = .bool false := ev (hd 4 (List.mem_cons_of_mem _ (List.mem_cons_of_mem _ List.mem_cons_self)))
              refine Does2.value (.bool (decide (x ≤ y))) (w' := w2) ?_ ⟨rfl, hS, tR_r _ _ _⟩
              clear hS h0 hd
              go_simp
            case refine_21 =>
              intro _ ac w2 hS h0 hd
              have d4 : ac.tmps[22]?.getD undef = .bool false := ev (hd 4 List.mem_cons_self)
              have d19 : ac.tmps[37]?.getD undef = .bool (decide (x ≤ y)) := ev (hd 19 (List.mem_cons_of_mem _ List.mem_cons_self))
              refine Does2.value (.bool (decide (x ≤ y))) (w' := w2) ?_ ⟨rfl, hS, tR_r _ _ _⟩
              clear hS h0 hd
              go_simp
            case refine_22 =>
              intro _ ac w2 hS h0 hd
              have o4 : ac.tmps[4]?.getD undef = .int .i64 (i : Nat) := ev (h0 4 (by kernel_rfl))
              refine Does2.value (.int .i64 (i : Nat)) (w' := w2) ?_ ⟨rfl, hS, tR_r _ _ _⟩
              clear hS h0 hd
              go_simp
            case refine_23 =>
              intro _ ac w2 hS h0 hd
              have o1 : ac.tmps[1]?.getD undef = .pointer (some ⟨Ba, 0, none⟩) := ev (h0 1 (by kernel_rfl))
              have ck := (hS.cell (cell_lt bA)).trans bA
              refine Does2.value (.slice (some ⟨ga, oa, none⟩) la ca) (w' := w2) ?_ ⟨rfl, hS, tR_r _ _ _⟩
              clear hS h0 hd
              go_simp
            case refine_24 =>
              intro _ ac w2 hS h0 hd
              have d22 : ac.tmps[40]?.getD undef = .slice (some ⟨ga, oa, none⟩) la ca := ev (hd 22 List.mem_cons_self)
              refine Does2.value (.int .i64 (la : Nat)) (w' := w2) ?_ ⟨rfl, hS, tR_r _ _ _⟩
              clear hS h0 hd
              go_simp
            case refine_25 =>
              intro _ ac w2 hS h0 hd
              have d21 : ac.tmps[39]?.getD undef = .int .i64 (i : Nat) := ev (hd 21 List.mem_cons_self)
              have d23 : ac.tmps[41]?.getD undef = .int .i64 (la : Nat) := ev (hd 23 (List.mem_cons_of_mem _ List.mem_cons_self))
              refine Does2.value (.bool false) (w' := w2) ?_ ⟨rfl, hS, tR_r _ _ _⟩
              clear hS h0 hd
              go_simp
            case refine_26 =>
              intro _ ac w2 hS h0 hd
              have d24 : ac.tmps[42]?.getD undef = .bool false := ev (hd 24 List.mem_cons_self)
              refine Does2.value (.bool false) (w' := w2) ?_ ⟨rfl, hS, tR_r _ _ _⟩
              clear hS h0 hd
              go_simp
            case refine_27 =>
              intro _ ac w2 hS h0 hd
              have o5 : ac.tmps[5]?.getD undef = .int .i64 (j : Nat) := ev (h0 5 (by kernel_rfl))
              have d25 : ac.tmps[43]?.getD undef = .bool false := ev (hd 25 List.mem_cons_self)
              refine Does2.value (.int .i64 (j : Nat)) (w' := w2) ?_ ⟨rfl, hS, tR_r _ _ _⟩
              clear hS h0 hd
              go_simp
            case refine_28 =>
              intro _ ac w2 hS h0 hd
              have o2 : ac.tmps[2]?.getD undef = .pointer (some ⟨Bb, 0, none⟩) := ev (h0 2 (by kernel_rfl))
              have d25 : ac.tmps[43]?.getD undef = .bool false := ev (hd 25 List.mem_cons_self)
              have ck := (hS.cell (cell_lt bB)).trans bB
              refine Does2.value (.slice (some ⟨gb, ob, none⟩) lb cb) (w' := w2) ?_ ⟨rfl, hS, tR_r _ _ _⟩
              clear hS h0 hd
              go_simp
            case refine_29 =>
              intro _ ac w2 hS h0 hd
              have d27 : ac.tmps[45]?.getD undef = .slice (some ⟨gb, ob, none⟩) lb cb := ev (hd 27 List.mem_cons_self)
              have d25 : ac.tmps[43]?.getD undef = .bool false := ev (hd 25 (List.mem_cons_of_mem _ List.mem_cons_self))
              refine Does2.value (.int .i64 (lb : Nat)) (w' := w2) ?_ ⟨rfl, hS, tR_r _ _ _⟩
              clear hS h0 hd
              go_simp
            case refine_30 =>
              intro _ ac w2 hS h0 hd
              have d26 : ac.tmps[44]?.getD undef = .int .i64 (j : Nat) := ev (hd 26 List.mem_cons_self)
              have d28 : ac.tmps[46]?.getD undef = .int .i64 (lb : Nat) := ev (hd 28 (List.mem_cons_of_mem _ List.mem_cons_self))
              have d25 : ac.tmps[43]?.getD undef = .bool false := ev (hd 25 (List.mem_cons_of_mem _ (List.mem_cons_of_mem _ List.mem_cons_self)))
              refine Does2.value (.bool true) (w' := w2) ?_ ⟨rfl, hS, tR_r _ _ _⟩
              clear hS h0 hd
              go_simp
            case refine_31 =>
              intro _ ac w2 hS h0 hd
              have d29 : ac.tmps[47]?.getD undef = .bool true := ev (hd 29 List.mem_cons_self)
              have d25 : ac.tmps[43]?.getD undef = .bool false := ev (hd 25 (List.mem_cons_of_mem _ List.mem_cons_self))
              refine Does2.value (.bool true) (w' := w2) ?_ ⟨rfl, hS, tR_r _ _ _⟩
              clear hS h0 hd
              go_simp
            case refine_32 =>
              intro _ ac w2 hS h0 hd
              have o2 : ac.tmps[2]?.getD undef = .pointer (some ⟨Bb, 0, none⟩) := ev (h0 2 (by kernel_rfl))
              have d30 : ac.tmps[48]?.getD undef = .bool true := ev (hd 30 List.mem_cons_self)
              have ck := (hS.cell (cell_lt bB)).trans bB
              refine Does2.value (.slice (some ⟨gb, ob, none⟩) lb cb) (w' := w2) ?_ ⟨rfl, hS, tR_r _ _ _⟩
              clear hS h0 hd
              go_simp
            case refine_33 =>
              intro _ ac w2 hS h0 hd
              have o5 : ac.tmps[5]?.getD undef = .int .i64 (j : Nat) := ev (h0 5 (by kernel_rfl))
              have d30 : ac.tmps[48]?.getD undef = .bool true := ev (hd 30 List.mem_cons_self)
              refine Does2.value (.int .i64 (j : Nat)) (w' := w2) ?_ ⟨rfl, hS, tR_r _ _ _⟩
              clear hS h0 hd
              go_simp
            case refine_34 =>
              intro _ ac w2 hS h0 hd
              have d31 : ac.tmps[49]?.getD undef = .slice (some ⟨gb, ob, none⟩) lb cb := ev (hd 31 List.mem_cons_self)
              have d32 : ac.tmps[50]?.getD undef = .int .i64 (j : Nat) := ev (hd 32 (List.mem_cons_of_mem _ List.mem_cons_self))
              have d30 : ac.tmps[48]?.getD undef = .bool true := ev (hd 30 (List.mem_cons_of_mem _ (List.mem_cons_of_mem _ List.mem_cons_self)))
              refine Does2.value (.pointer (some ⟨gb, ob + j, none⟩)) (w' := w2) ?_ ⟨rfl, hS, tR_r _ _ _⟩
              clear hS h0 hd
              go_simp
            case refine_35 =>
              intro _ ac w2 hS h0 hd
              have d33 : ac.tmps[51]?.getD undef = .pointer (some ⟨gb, ob + j, none⟩) := ev (hd 33 List.mem_cons_self)
              have d30 : ac.tmps[48]?.getD undef = .bool true := ev (hd 30 (List.mem_cons_of_mem _ List.mem_cons_self))
              have ck := (hS.cell (cell_lt cy)).trans cy
              refine Does2.value (.int .u32 y) (w' := w2) ?_ ⟨rfl, hS, tR_r _ _ _⟩
              clear hS h0 hd
              go_simp
            case refine_36 =>
              intro _ ac w2 hS h0 hd
              have o1 : ac.tmps[1]?.getD undef = .pointer (some ⟨Ba, 0, none⟩) := ev (h0 1 (by kernel_rfl))
              have d30 : ac.tmps[48]?.getD undef = .bool true := ev (hd 30 List.mem_cons_self)
              have ck := (hS.cell (cell_lt bA)).trans bA
              refine Does2.value (.slice (some ⟨ga, oa, none⟩) la ca) (w' := w2) ?_ ⟨rfl, hS, tR_r _ _ _⟩
              clear hS h0 hd
              go_simp
            case refine_37 =>
              intro _ ac w2 hS h0 hd
              have o4 : ac.tmps[4]?.getD undef = .int .i64 (i : Nat) := ev (h0 4 (by kernel_rfl))
              have d30 : ac.tmps[48]?.getD undef = .bool true := ev (hd 30 List.mem_cons_self)
              refine Does2.value (.int .i64 (i : Nat)) (w' := w2) ?_ ⟨rfl, hS, tR_r _ _ _⟩
              clear hS h0 hd
              go_simp
            case refine_38 =>
              intro _ ac w2 hS h0 hd
              have d35 : ac.tmps[53]?.getD undef = .slice (some ⟨ga, oa, none⟩) la ca := ev (hd 35 List.mem_cons_self)
              have d36 : ac.tmps[54]?.getD undef = .int .i64 (i : Nat) := ev (hd 36 (List.mem_cons_of_mem _ List.mem_cons_self))
              have d30 : ac.tmps[48]?.getD undef = .bool true := ev (hd 30 (List.mem_cons_of_mem _ (List.mem_cons_of_mem _ List.mem_cons_self)))
              refine Does2.value (.pointer (some ⟨ga, oa + i, none⟩)) (w' := w2) ?_ ⟨rfl, hS, tR_r _ _ _⟩
              clear hS h0 hd
              go_simp
            case refine_39 =>
              intro _ ac w2 hS h0 hd
              have d37 : ac.tmps[55]?.getD undef = .pointer (some ⟨ga, oa + i, none⟩) := ev (hd 37 List.mem_cons_self)
              have d30 : ac.tmps[48]?.getD undef = .bool true := ev (hd 30 (List.mem_cons_of_mem _ List.mem_cons_self))
              have ck := (hS.cell (cell_lt cx)).trans cx
              refine Does2.value (.int .u32 x) (w' := w2) ?_ ⟨rfl, hS, tR_r _ _ _⟩
              clear hS h0 hd
              go_simp
            case refine_40 =>
              intro _ ac w2 hS h0 hd
              have d34 : ac.tmps[52]?.getD undef = .int .u32 y := ev (hd 34 List.mem_cons_self)
              have d38 : ac.tmps[56]?.getD undef = .int .u32 x := ev (hd 38 (List.mem_cons_of_mem _ List.mem_cons_self))
              have d30 : ac.tmps[48]?.getD undef = .bool true := ev (hd 30 (List.mem_cons_of_mem _ (List.mem_cons_of_mem _ List.mem_cons_self)))
              refine Does2.value (.bool (decide (y ≤ x))) (w' := w2) ?_ ⟨rfl, hS, tR_r _ _ _⟩
              clear hS h0 hd
              go_simp
            case refine_41 =>
              intro _ ac w2 hS h0 hd
              have d30 : ac.tmps[48]?.getD undef = .bool true := ev (hd 30 List.mem_cons_self)
              have d39 : ac.tmps[57]?.getD undef = .bool (decide (y ≤ x)) := ev (hd 39 (List.mem_cons_of_mem _ List.mem_cons_self))
              have d25 : ac.tmps[43]?.getD undef = .bool false := ev (hd 25 (List.mem_cons_of_mem _ (List.mem_cons_of_mem _ List.mem_cons_self)))
              refine Does2.value (.bool (decide (y ≤ x))) (w' := w2) ?_ ⟨rfl, hS, tR_r _ _ _⟩
              clear hS h0 hd
              go_simp
            case refine_42 =>
              intro _ ac w2 hS h0 hd
              have d25 : ac.tmps[43]?.getD undef = .bool false := ev (hd 25 List.mem_cons_self)
              have d40 : ac.tmps[58]?.getD undef = .bool (decide (y ≤ x)) := ev (hd 40 (List.mem_cons_of_mem _ List.mem_cons_self))
              refine Does2.value (.bool (decide (y ≤ x))) (w' := w2) ?_ ⟨rfl, hS, tR_r _ _ _⟩
              clear hS h0 hd
              go_simp
            case refine_43 =>
              intro _ ac w2 hS h0 hd
              have d20 : ac.tmps[38]?.getD undef = .bool (decide (x ≤ y)) := ev (hd 20 List.mem_cons_self)
              have d41 : ac.tmps[59]?.getD undef = .bool (decide (y ≤ x)) := ev (hd 41 (List.mem_cons_of_mem _ List.mem_cons_self))
              refine Does2.value (.agg #[.bool (decide (x ≤ y)), .bool (decide (y ≤ x))]) (w' := w2) ?_ ⟨rfl, hS, tR_r _ _ _⟩
              clear hS h0 hd
              go_simp
            case refine_44 =>
              intro _ ac w2 hS h0 hd
              refine Does2.value (.pointer (some ⟨w2.heap.size, 0, none⟩)) (w' := w2.alloc (.cells #[.bool false, .bool false] 177)) ?_ ⟨⟨w2.heap.size, rfl, hS.size, _, Go.Deep.blk_alloc_new _ _, rfl⟩, hS.alloc hS.size _, .inr ((Below.refl _ _).alloc (Nat.le_refl _) _), fun B c _ h1 h2 => ⟨c, by rw [((Below.refl w2.heap.size w2).alloc (Nat.le_refl _) _).block B (Array.getElem?_eq_some_iff.1 h1).1]; exact h1, h2⟩⟩
              clear hS h0 hd
              go_simp
            case refine_45 =>
              intro _ ac w2 hS h0 hd
              obtain ⟨B, eB, hB, cc, hc1, hc2⟩ := hd 43 List.mem_cons_self
              have eB' : ac.tmps[6]?.getD undef = .pointer (some ⟨B, 0, none⟩) := ev eB
              obtain ⟨c0, c1, rfl⟩ : ∃ c0 c1, cc = #[c0, c1] := by
                obtain ⟨l⟩ := cc
                match l, hc2 with
                | [x0, x1], _ => exact ⟨x0, x1, rfl⟩
              have d42 : ac.tmps[60]?.getD undef = .agg #[.bool (decide (x ≤ y)), .bool (decide (y ≤ x))] := ev (hd 42 (List.mem_cons_of_mem _ List.mem_cons_self))
              obtain ⟨k0, k1, f0, f1, hb2⟩ := two_cells hc1 (.bool (decide (x ≤ y))) (.bool (decide (y ≤ x)))
              refine Does2.skip (w' := (w2.setCell ⟨B, 0, none⟩ (.bool (decide (x ≤ y)))).setCell ⟨B, 1, none⟩ (.bool (decide (y ≤ x)))) ?_ ⟨⟨B, _, by simp [valAt, tD]; exact ⟨eB, rfl⟩, hB, hb2⟩, (hS.setCell (p := ⟨B, 0, none⟩) hB _).setCell (p := ⟨B, 1, none⟩) hB _, .inl rfl, fun B' c hB' h1 h2 => ?_⟩
              · clear hS h0 hd
                go_simp
              · by_cases e : B' = B
                · subst e; exact ⟨_, hb2, rfl⟩
                · refine ⟨c, ?_, h2⟩
                  rw [Below.heap_setCell _ ⟨B, 1, none⟩ _ B' e, Below.heap_setCell _ ⟨B, 0, none⟩ _ B' e]
                  exact h1
            case hend =>
              intro f w2 hS hV
              obtain ⟨B, e6, hBN, _⟩ := hV 43 (by decide)
              have e6 : f 6 = .pointer (some ⟨B, 0, none⟩) := e6
              obtain ⟨B2, u, eus, _, hbl⟩ := hV 44 (by decide)
              have eB : B2 = B := by
                have h1 : some (f 6) = some (.pointer (some ⟨B2, 0, none⟩)) := congrArg (fun l : List Value => l.head?) eus
                rw [e6] at h1; simp at h1; exact h1.symm
              subst eB
              obtain ⟨k0, k1, f0, f1, _⟩ := two_cells hbl undef undef
              have bA2 := (hS.cell (cell_lt bA)).trans bA
              have bB2 := (hS.cell (cell_lt bB)).trans bB
              have cx2 := (hS.cell (cell_lt cx)).trans cx
              have cy2 := (hS.cell (cell_lt cy)).trans cy
              have HK2 := Lib.hid (kp2_below HK.out (Nat.le_trans hW hsz) hS)
              have HJ2 := Lib.hid (HJ.out pre wr w2 none HJS.out (grown_of_below hS) (fun r e => by cases e))
              have hsz2 : W.heap.size ≤ w2.heap.size := Nat.le_trans hsz hS.size
              simp only [putAll, Act.put, List.setIfInBounds_toArray, List.set_cons_zero, List.set_cons_succ, e6]
              clear hS hV eus hbl e6

              rcases Int.lt_trichotomy x y with hxy | hxy | hxy
              · have c1 : decide (x ≤ y) = true := decide_eq_true (by omega)
                have c2 : decide (y ≤ x) = false := decide_eq_false (by omega)
                rw [c1] at k0
                rw [c2] at k1
                have hthr : thr (xs.drop i) (ys.drop j) = (x, true, false) :: thr (xs.drop (i + 1)) (ys.drop j) := by rw [drop_cons (l := xs) (i := i) (by rw [HX.out]; exact hil), drop_cons (l := ys) (i := j) (by rw [HY.out]; exact hjl), HXV.out, HYV.out, thr_lt hxy]
                have hlen : pre.length < (thr xs ys).length := by rw [← HP.out, hthr]; simp
                have HN : Hid ((pre ++ [(x, true, false)]) ++ thr (xs.drop (i + 1)) (ys.drop j) = thr xs ys) := Lib.hid (by rw [← HP.out, hthr]; simp)
                clear hthr
                obtain ⟨fn, tmps, assign, body, hy, hR⟩ := hY pre (x, true, false) w2 HJ2.out hlen
                dsimp only at hy
                gi_wp2
                refine hR.mono ?_
                rintro e W3 (⟨rfl, hJ3, hk3⟩ | ⟨rfl, hJx3⟩)
                · gi_wp2
                  go_roundw
                  case rel => exact ⟨(i + 1), j, _, by go_num, rfl, by omega, by omega, HN.out, hJ3, kp2_t HK2.out hk3, Nat.le_trans hsz2 hk3.1.size⟩
                  case measure => simp [intOf]; omega
                · gi_wp2
                  refine bodyPost_ret (results_none rfl _ _ _) rfl ?_
                  exact ⟨⟨_, rfl⟩, .inr ⟨_, trivial, hJx3⟩⟩
              · have c1 : decide (x ≤ y) = true := decide_eq_true (by omega)
                have c2 : decide (y ≤ x) = true := decide_eq_true (by omega)
                rw [c1] at k0
                rw [c2] at k1
                have hthr : thr (xs.drop i) (ys.drop j) = (y, true, true) :: thr (xs.drop (i + 1)) (ys.drop (j + 1)) := by rw [drop_cons (l := xs) (i := i) (by rw [HX.out]; exact hil), drop_cons (l := ys) (i := j) (by rw [HY.out]; exact hjl), HXV.out, HYV.out, hxy, thr_eq]
                have hlen : pre.length < (thr xs ys).length := by rw [← HP.out, hthr]; simp
                have HN : Hid ((pre ++ [(y, true, true)]) ++ thr (xs.drop (i + 1)) (ys.drop (j + 1)) = thr xs ys) := Lib.hid (by rw [← HP.out, hthr]; simp)
                clear hthr
                obtain ⟨fn, tmps, assign, body, hy, hR⟩ := hY pre (y, true, true) w2 HJ2.out hlen
                dsimp only at hy
                gi_wp2
                refine hR.mono ?_
                rintro e W3 (⟨rfl, hJ3, hk3⟩ | ⟨rfl, hJx3⟩)
                · gi_wp2
                  go_roundw
                  case rel => exact ⟨(i + 1), (j + 1), _, by go_num, by go_num, by omega, by omega, HN.out, hJ3, kp2_t HK2.out hk3, Nat.le_trans hsz2 hk3.1.size⟩
                  case measure => simp [intOf]; omega
                · gi_wp2
                  refine bodyPost_ret (results_none rfl _ _ _) rfl ?_
                  exact ⟨⟨_, rfl⟩, .inr ⟨_, trivial, hJx3⟩⟩
              · have c1 : decide (x ≤ y) = false := decide_eq_false (by omega)
                have c2 : decide (y ≤ x) = true := decide_eq_true (by omega)
                rw [c1] at k0
                rw [c2] at k1
                have hthr : thr (xs.drop i) (ys.drop j) = (y, false, true) :: thr (xs.drop i) (ys.drop (j + 1)) := by rw [drop_cons (l := xs) (i := i) (by rw [HX.out]; exact hil), drop_cons (l := ys) (i := j) (by rw [HY.out]; exact hjl), HXV.out, HYV.out, thr_gt hxy]
                have hlen : pre.length < (thr xs ys).length := by rw [← HP.out, hthr]; simp
                have HN : Hid ((pre ++ [(y, false, true)]) ++ thr (xs.drop i) (ys.drop (j + 1)) = thr xs ys) := Lib.hid (by rw [← HP.out, hthr]; simp)
                clear hthr
                obtain ⟨fn, tmps, assign, body, hy, hR⟩ := hY pre (y, false, true) w2 HJ2.out hlen
                dsimp only at hy
                gi_wp2
                refine hR.mono ?_
                rintro e W3 (⟨rfl, hJ3, hk3⟩ | ⟨rfl, hJx3⟩)
                · gi_wp2
                  go_roundw
                  case rel => exact ⟨i, (j + 1), _, rfl, by go_num, by omega, by omega, HN.out, hJ3, kp2_t HK2.out hk3, Nat.le_trans hsz2 hk3.1.size⟩
                  case measure => simp [intOf]; omega
                · gi_wp2
                  refine bodyPost_ret (results_none rfl _ _ _) rfl ?_
                  exact ⟨⟨_, rfl⟩, .inr ⟨_, trivial, hJx3⟩⟩
        · have hjne : ((j : Int) == (lb : Int)) = true := by simp; omega
          have hjz : ¬ ((j : Int) < (lb : Int)) := by omega
          generalize hxv : xs.getD i 0 = x at *
          have HXV := Lib.hid hxv
          clear hxv
          gi_wp2
          refine wpIn_wide.2 ?_
          refine wp_region_each4 (tV wr.heap.size (valY i j la lb ca cb ga oa b) true false) (fun w2 => Below wr.heap.size wr w2) (tR wr.heap.size) tD runY [18, 19, 20, 21, 22, 23, 24, 25, 26, 27, 28, 29, 30, 31, 32, 33, 34, 35, 36, 37, 38, 39, 40, 41, 42, 43, 44, 45, 46, 47, 48, 49, 50, 51, 52, 53, 54, 55, 56, 57, 58, 59, 60, 6] (by kernel_rfl) (by kernel_rfl) (by kernel_rfl) (Below.refl _ wr).drew
            (fun i j oi oj v us A B hoi hoj hij hw hSA hr hv => tV_stable hij hr hv) ?hgd ?hng ?hsk
            ⟨?_, ?_, ?_, ?_, ?_, ?_, ?_, ?_, ?_, ?_, ?_, ?_, ?_, ?_, ?_, ?_, ?_, ?_, ?_, ?_, ?_, ?_, ?_, ?_, ?_, ?_, ?_, ?_, ?_, ?_, ?_, ?_, ?_, ?_, ?_, ?_, ?_, ?_, ?_, ?_, ?_, ?_, ?_, ?_, ?_, trivial⟩ ?hend
          case hgd =>
            intro i o g b ho hg v us w2 hv
            have h1 := guard_of (by kernel_rfl) ho hg
            have hi : i ∈ List.range 45 := List.mem_range.2 (by
              have h3 := (List.getElem?_eq_some_iff.1 h1).1
              have h4 : tG.length = 45 := by kernel_rfl
              omega)
            rcases tG_cases _ (List.mem_of_getElem? h1) with e | e | e | e | e
            · cases e
            · cases e
              have hr := (by decide : ∀ i ∈ List.range 45, tG[i]? = some (some (4, false)) → runY i = false) i hi h1
              have hv' : v = (.bool true : Value) := hv
              rw [hr, if_neg Bool.false_ne_true, hv']
              intro e; cases e
            · cases e
              have hr := (by decide : ∀ i ∈ List.range 45, tG[i]? = some (some (9, true)) → runY i = false) i hi h1
              have hv' : v = (undef : Value) := hv
              rw [hr, if_neg Bool.false_ne_true, hv']
              intro e; cases e
            · cases e
              have hr := (by decide : ∀ i ∈ List.range 45, tG[i]? = some (some (25, false)) → runY i = true) i hi h1
              have hv' : v = (.bool false : Value) := hv
              rw [hr, if_pos rfl, hv']
            · cases e
              have hr := (by decide : ∀ i ∈ List.range 45, tG[i]? = some (some (30, true)) → runY i = false) i hi h1
              have hv' : v = (.bool false : Value) := hv
              rw [hr, if_neg Bool.false_ne_true, hv']
              intro e; cases e
          case hng =>
            intro i o ho hr
            have hi : i ∈ List.range 45 := List.mem_range.2 (Array.getElem?_eq_some_iff.1 ho).1
            have h1 := (by decide : ∀ i ∈ List.range 45, runY i = false → ((tG[i]?).bind id).isSome = true) i hi hr
            exact guard_some (by kernel_rfl) ho h1
          case hsk =>
            intro i us w2 hr _
            have h1 : i ∈ ([5, 6, 7, 8, 9, 10, 11, 12, 13, 14, 15, 16, 17, 18, 19, 31, 32, 33, 34, 35, 36, 37, 38, 39] : List Nat) := by
              unfold runY at hr
              rw [Bool.not_eq_false'] at hr
              exact List.contains_iff_mem.1 hr
            simp only [List.mem_cons, List.not_mem_nil, or_false] at h1
            rcases h1 with rfl | rfl | rfl | rfl | rfl | rfl | rfl | rfl | rfl | rfl | rfl | rfl | rfl | rfl | rfl | rfl | rfl | rfl | rfl | rfl | rfl | rfl | rfl | rfl <;> rfl
          case refine_1 =>
            intro _ ac w2 hS h0 hd
            have o5 : ac.tmps[5]?.getD undef = .int .i64 (j : Nat) := ev (h0 5 (by kernel_rfl))
            refine Does2.value (.int .i64 (j : Nat)) (w' := w2) ?_ ⟨rfl, hS, tR_r _ _ _⟩
            clear hS h0 hd
            go_simp
          case refine_2 =>
            intro _ ac w2 hS h0 hd
            have o2 : ac.tmps[2]?.getD undef = .pointer (some ⟨Bb, 0, none⟩) := ev (h0 2 (by kernel_rfl))
            have ck := (hS.cell (cell_lt bB)).trans bB
            refine Does2.value (.slice b lb cb) (w' := w2) ?_ ⟨rfl, hS, tR_r _ _ _⟩
            clear hS h0 hd
            go_simp
          case refine_3 =>
            intro _ ac w2 hS h0 hd
            have d1 : ac.tmps[19]?.getD undef = .slice b lb cb := ev (hd 1 List.mem_cons_self)
            refine Does2.value (.int .i64 (lb : Nat)) (w' := w2) ?_ ⟨rfl, hS, tR_r _ _ _⟩
            clear hS h0 hd
            go_simp
          case refine_4 =>
            intro _ ac w2 hS h0 hd
            have d0 : ac.tmps[18]?.getD undef = .int .i64 (j : Nat) := ev (hd 0 List.mem_cons_self)
            have d2 : ac.tmps[20]?.getD undef = .int .i64 (lb : Nat) := ev (hd 2 (List.mem_cons_of_mem _ List.mem_cons_self))
            refine Does2.value (.bool true) (w' := w2) ?_ ⟨rfl, hS, tR_r _ _ _⟩
            clear hS h0 hd
            go_simp
          case refine_5 =>
            intro _ ac w2 hS h0 hd
            have d3 : ac.tmps[21]?.getD undef = .bool true := ev (hd 3 List.mem_cons_self)
            refine Does2.value (.bool true) (w' := w2) ?_ ⟨rfl, hS, tR_r _ _ _⟩
            clear hS h0 hd
            go_simp
          case refine_6 => exact fun h => absurd h (by decide)
          case refine_7 => exact fun h => absurd h (by decide)
          case refine_8 => exact fun h => absurd h (by decide)
          case refine_9 => exact fun h => absurd h (by decide)
          case refine_10 => exact fun h => absurd h (by decide)
          case refine_11 => exact fun h => absurd h (by decide)
          case refine_12 => exact fun h => absurd h (by decide)
          case refine_13 => exact fun h => absurd h (by decide)
          case refine_14 => exact fun h => absurd h (by decide)
          case refine_15 => exact fun h => absurd h (by decide)
          case refine_16 => exact fun h => absurd h (by decide)
          case refine_17 => exact fun h => absurd h (by decide)
          case refine_18 => exact fun h => absurd h (by decide)
          case refine_19 => exact fun h => absurd h (by decide)
          case refine_20 => exact fun h => absurd h (by decide)
          case refine_21 =>
            intro _ ac w2 hS h0 hd
            have d4 : ac.tmps[22]?.getD undef = .bool true := ev (hd 4 List.mem_cons_self)
            have d19 : ac.tmps[37]?.getD undef = undef := ev (hd 19 (List.mem_cons_of_mem _ List.mem_cons_self))
            refine Does2.value (.bool true) (w' := w2) ?_ ⟨rfl, hS, tR_r _ _ _⟩
            clear hS h0 hd
            go_simp
          case refine_22 =>
            intro _ ac w2 hS h0 hd
            have o4 : ac.tmps[4]?.getD undef = .int .i64 (i : Nat) := ev (h0 4 (by kernel_rfl))
            refine Does2.value (.int .i64 (i : Nat)) (w' := w2) ?_ ⟨rfl, hS, tR_r _ _ _⟩
            clear hS h0 hd
            go_simp
          case refine_23 =>
            intro _ ac w2 hS h0 hd
            have o1 : ac.tmps[1]?.getD undef = .pointer (some ⟨Ba, 0, none⟩) := ev (h0 1 (by kernel_rfl))
            have ck := (hS.cell (cell_lt bA)).trans bA
            refine Does2.value (.slice (some ⟨ga, oa, none⟩) la ca) (w' := w2) ?_ ⟨rfl, hS, tR_r _ _ _⟩
            clear hS h0 hd
            go_simp
          case refine_24 =>
            intro _ ac w2 hS h0 hd
            have d22 : ac.tmps[40]?.getD undef = .slice (some ⟨ga, oa, none⟩) la ca := ev (hd 22 List.mem_cons_self)
            refine Does2.value (.int .i64 (la : Nat)) (w' := w2) ?_ ⟨rfl, hS, tR_r _ _ _⟩
            clear hS h0 hd
            go_simp
          case refine_25 =>
            intro _ ac w2 hS h0 hd
            have d21 : ac.tmps[39]?.getD undef = .int .i64 (i : Nat) := ev (hd 21 List.mem_cons_self)
            have d23 : ac.tmps[41]?.getD undef = .int .i64 (la : Nat) := ev (hd 23 (List.mem_cons_of_mem _ List.mem_cons_self))
            refine Does2.value (.bool false) (w' := w2) ?_ ⟨rfl, hS, tR_r _ _ _⟩
            clear hS h0 hd
            go_simp
          case refine_26 =>
            intro _ ac w2 hS h0 hd
            have d24 : ac.tmps[42]?.getD undef = .bool false := ev (hd 24 List.mem_cons_self)
            refine Does2.value (.bool false) (w' := w2) ?_ ⟨rfl, hS, tR_r _ _ _⟩
            clear hS h0 hd
            go_simp
          case refine_27 =>
            intro _ ac w2 hS h0 hd
            have o5 : ac.tmps[5]?.getD undef = .int .i64 (j : Nat) := ev (h0 5 (by kernel_rfl))
            have d25 : ac.tmps[43]?.getD undef = .bool false := ev (hd 25 List.mem_cons_self)
            refine Does2.value (.int .i64 (j : Nat)) (w' := w2) ?_ ⟨rfl, hS, tR_r _ _ _⟩
            clear hS h0 hd
            go_simp
          case refine_28 =>
            intro _ ac w2 hS h0 hd
            have o2 : ac.tmps[2]?.getD undef = .pointer (some ⟨Bb, 0, none⟩) := ev (h0 2 (by kernel_rfl))
            have d25 : ac.tmps[43]?.getD undef = .bool false := ev (hd 25 List.mem_cons_self)
            have ck := (hS.cell (cell_lt bB)).trans bB
            refine Does2.value (.slice b lb cb) (w' := w2) ?_ ⟨rfl, hS, tR_r _ _ _⟩
            clear hS h0 hd
            go_simp
          case refine_29 =>
            intro _ ac w2 hS h0 hd
            have d27 : ac.tmps[45]?.getD undef = .slice b lb cb := ev (hd 27 List.mem_cons_self)
            have d25 : ac.tmps[43]?.getD undef = .bool false := ev (hd 25 (List.mem_cons_of_mem _ List.mem_cons_self))
            refine Does2.value (.int .i64 (lb : Nat)) (w' := w2) ?_ ⟨rfl, hS, tR_r _ _ _⟩
            clear hS h0 hd
            go_simp
          case refine_30 =>
            intro _ ac w2 hS h0 hd
            have d26 : ac.tmps[44]?.getD undef = .int .i64 (j : Nat) := ev (hd 26 List.mem_cons_self)
            have d28 : ac.tmps[46]?.getD undef = .int .i64 (lb : Nat) := ev (hd 28 (List.mem_cons_of_mem _ List.mem_cons_self))
            have d25 : ac.tmps[43]?.getD undef = .bool false := ev (hd 25 (List.mem_cons_of_mem _ (List.mem_cons_of_mem _ List.mem_cons_self)))
            refine Does2.value (.bool false) (w' := w2) ?_ ⟨rfl, hS, tR_r _ _ _⟩
            clear hS h0 hd
            go_simp
          case refine_31 =>
            intro _ ac w2 hS h0 hd
            have d29 : ac.tmps[47]?.getD undef = .bool false := ev (hd 29 List.mem_cons_self)
            have d25 : ac.tmps[43]?.getD undef = .bool false := ev (hd 25 (List.mem_cons_of_mem _ List.mem_cons_self))
            refine Does2.value (.bool false) (w' := w2) ?_ ⟨rfl, hS, tR_r _ _ _⟩
            clear hS h0 hd
            go_simp
          case refine_32 => exact fun h => absurd h (by decide)
          case refine_33 => exact fun h => absurd h (by decide)
          case refine_34 => exact fun h => absurd h (by decide)
          case refine_35 => exact fun h => absurd h (by decide)
          case refine_36 => exact fun h => absurd h (by decide)
          case refine_37 => exact fun h => absurd h (by decide)
          case refine_38 => exact fun h => absurd h (by decide)
          case refine_39 => exact fun h => absurd h (by decide)
          case refine_40 => exact fun h => absurd h (by decide)
          case refine_41 =>
            intro _ ac w2 hS h0 hd
            have d30 : ac.tmps[48]?.getD undef = .bool false := ev (hd 30 List.mem_cons_self)
            have d39 : ac.tmps[57]?.getD undef = undef := ev (hd 39 (List.mem_cons_of_mem _ List.mem_cons_self))
            have d25 : ac.tmps[43]?.getD undef = .bool false := ev (hd 25 (List.mem_cons_of_mem _ (List.mem_cons_of_mem _ List.mem_cons_self)))
            refine Does2.value (.bool false) (w' := w2) ?_ ⟨rfl, hS, tR_r _ _ _⟩
            clear hS h0 hd
            go_simp
          case refine_42 =>
            intro _ ac w2 hS h0 hd
            have d25 : ac.tmps[43]?.getD undef = .bool false := ev (hd 25 List.mem_cons_self)
            have d40 : ac.tmps[58]?.getD undef = .bool false := ev (hd 40 (List.mem_cons_of_mem _ List.mem_cons_self))
            refine Does2.value (.bool false) (w' := w2) ?_ ⟨rfl, hS, tR_r _ _ _⟩
            clear hS h0 hd
            go_simp
          case refine_43 =>
            intro _ ac w2 hS h0 hd
            have d20 : ac.tmps[38]?.getD undef = .bool true := ev (hd 20 List.mem_cons_self)
            have d41 : ac.tmps[59]?.getD undef = .bool false := ev (hd 41 (List.mem_cons_of_mem _ List.mem_cons_self))
            refine Does2.value (.agg #[.bool true, .bool false]) (w' := w2) ?_ ⟨rfl, hS, tR_r _ _ _⟩
            clear hS h0 hd
            go_simp
          case refine_44 =>
            intro _ ac w2 hS h0 hd
            refine Does2.value (.pointer (some ⟨w2.heap.size, 0, none⟩)) (w' := w2.alloc (.cells #[.bool false, .bool false] 177)) ?_ ⟨⟨w2.heap.size, rfl, hS.size, _, Go.Deep.blk_alloc_new _ _, rfl⟩, hS.alloc hS.size _, .inr ((Below.refl _ _).alloc (Nat.le_refl _) _), fun B c _ h1 h2 => ⟨c, by rw [((Below.refl w2.heap.size w2).alloc (Nat.le_refl _) _).block B (Array.getElem?_eq_some_iff.1 h1).1]; exact h1, h2⟩⟩
            clear hS h0 hd
            go_simp
          case refine_45 =>
            intro _ ac w2 hS h0 hd
            obtain ⟨B, eB, hB, cc, hc1, hc2⟩ := hd 43 List.mem_cons_self
            have eB' : ac.tmps[6]?.getD undef = .pointer (some ⟨B, 0, none⟩) := ev eB
            obtain ⟨c0, c1, rfl⟩ : ∃ c0 c1, cc = #[c0, c1] := by
              obtain ⟨l⟩ := cc
              match l, hc2 with
              | [x0, x1], _ => exact ⟨x0, x1, rfl⟩
            have d42 : ac.tmps[60]?.getD undef = .agg #[.bool true, .bool false] := ev (hd 42 (List.mem_cons_of_mem _ List.mem_cons_self))
            obtain ⟨k0, k1, f0, f1, hb2⟩ := two_cells hc1 (.bool true) (.bool false)
            refine Does2.skip (w' := (w2.setCell ⟨B, 0, none⟩ (.bool true)).setCell ⟨B, 1, none⟩ (.bool false)) ?_ ⟨⟨B, _, by simp [valAt, tD]; exact ⟨eB, rfl⟩, hB, hb2⟩, (hS.setCell (p := ⟨B, 0, none⟩) hB _).setCell (p := ⟨B, 1, none⟩) hB _, .inl rfl, fun B' c hB' h1 h2 => ?_⟩
            · clear hS h0 hd
              go_simp
            · by_cases e : B' = B
              · subst e; exact ⟨_, hb2, rfl⟩
              · refine ⟨c, ?_, h2⟩
                rw [Below.heap_setCell _ ⟨B, 1, none⟩ _ B' e, Below.heap_setCell _ ⟨B, 0, none⟩ _ B' e]
                exact h1
          case hend =>
            intro f w2 hS hV
            obtain ⟨B, e6, hBN, _⟩ := hV 43 (by decide)
            have e6 : f 6 = .pointer (some ⟨B, 0, none⟩) := e6
            obtain ⟨B2, u, eus, _, hbl⟩ := hV 44 (by decide)
            have eB : B2 = B := by
              have h1 : some (f 6) = some (.pointer (some ⟨B2, 0, none⟩)) := congrArg (fun l : List Value => l.head?) eus
              rw [e6] at h1; simp at h1; exact h1.symm
            subst eB
            obtain ⟨k0, k1, f0, f1, _⟩ := two_cells hbl undef undef
            have bA2 := (hS.cell (cell_lt bA)).trans bA
            have bB2 := (hS.cell (cell_lt bB)).trans bB
            have cx2 := (hS.cell (cell_lt cx)).trans cx
            have HK2 := Lib.hid (kp2_below HK.out (Nat.le_trans hW hsz) hS)
            have HJ2 := Lib.hid (HJ.out pre wr w2 none HJS.out (grown_of_below hS) (fun r e => by cases e))
            have hsz2 : W.heap.size ≤ w2.heap.size := Nat.le_trans hsz hS.size
            simp only [putAll, Act.put, List.setIfInBounds_toArray, List.set_cons_zero, List.set_cons_succ, e6]
            clear hS hV eus hbl e6

            have hthr : thr (xs.drop i) (ys.drop j) = (x, true, false) :: thr (xs.drop (i + 1)) (ys.drop j) := by rw [drop_cons (l := xs) (i := i) (by rw [HX.out]; exact hil), drop_end (l := ys) (i := j) (by rw [HY.out]; omega), HXV.out, thr_l]
            have hlen : pre.length < (thr xs ys).length := by rw [← HP.out, hthr]; simp
            have HN : Hid ((pre ++ [(x, true, false)]) ++ thr (xs.drop (i + 1)) (ys.drop j) = thr xs ys) := Lib.hid (by rw [← HP.out, hthr]; simp)
            clear hthr
            obtain ⟨fn, tmps, assign, body, hy, hR⟩ := hY pre (x, true, false) w2 HJ2.out hlen
            dsimp only at hy
            gi_wp2
            refine hR.mono ?_
            rintro e W3 (⟨rfl, hJ3, hk3⟩ | ⟨rfl, hJx3⟩)
            · gi_wp2
              go_roundw
              case rel => exact ⟨(i + 1), j, _, by go_num, rfl, by omega, by omega, HN.out, hJ3, kp2_t HK2.out hk3, Nat.le_trans hsz2 hk3.1.size⟩
              case measure => simp [intOf]; omega
            · gi_wp2
              refine bodyPost_ret (results_none rfl _ _ _) rfl ?_
              exact ⟨⟨_, rfl⟩, .inr ⟨_, trivial, hJx3⟩⟩
    · have hiz : ¬ ((i : Int) < (la : Int)) := by omega
      have hine : ((i : Int) == (la : Int)) = true := by simp; omega
      by_cases hjl : j < lb
      · rcases HYS.out with e | ⟨gb, ob, rfl, hgb, hcb⟩
        · have := HY.out; rw [e] at this; simp at this; omega
        · have cy : wr.cell? ⟨gb, ob + j, none⟩ = some (.int .u32 (ys.getD j 0)) := (HK.out.1.cell (p := ⟨gb, ob + j, none⟩) hgb).trans (hcb j hjl)
          clear hcb
          have hjne : ((j : Int) == (lb : Int)) = false := by simp; omega
          have hjz : (j : Int) < (lb : Int) := by omega
          generalize hyv : ys.getD j 0 = y at *
          have HYV := Lib.hid hyv
          clear hyv
          gi_wp2
          refine wpIn_wide.2 ?_
          refine wp_region_each4 (tV wr.heap.size (valZ i j la lb ca cb gb ob a) false true) (fun w2 => Below wr.heap.size wr w2) (tR wr.heap.size) tD runZ [18, 19, 20, 21, 22, 23, 24, 25, 26, 27, 28, 29, 30, 31, 32, 33, 34, 35, 36, 37, 38, 39, 40, 41, 42, 43, 44, 45, 46, 47, 48, 49, 50, 51, 52, 53, 54, 55, 56, 57, 58, 59, 60, 6] (by kernel_rfl) (by kernel_rfl) (by kernel_rfl) (Below.refl _ wr).drew
            (fun i j oi oj v us A B hoi hoj hij hw hSA hr hv => tV_stable hij hr hv) ?hgd ?hng ?hsk
            ⟨?_, ?_, ?_, ?_, ?_, ?_, ?_, ?_, ?_, ?_, ?_, ?_, ?_, ?_, ?_, ?_, ?_, ?_, ?_, ?_, ?_, ?_, ?_, ?_, ?_, ?_, ?_, ?_, ?_, ?_, ?_, ?_, ?_, ?_, ?_, ?_, ?_, ?_, ?_, ?_, ?_, ?_, ?_, ?_, ?_, trivial⟩ ?hend
          case hgd =>
            intro i o g b ho hg v us w2 hv
            have h1 := guard_of (by kernel_rfl) ho hg
            have hi : i ∈ List.range 45 := List.mem_range.2 (by
              have h3 := (List.getElem?_eq_some_iff.1 h1).1
              have h4 : tG.length = 45 := by kernel_rfl
              omega)
            rcases tG_cases _ (List.mem_of_getElem? h1) with e | e | e | e | e
            · cases e
            · cases e
              have hr := (by decide : ∀ i ∈ List.range 45, tG[i]? = some (some (4, false)) → runZ i = true) i hi h1
              have hv' : v = (.bool false : Value) := hv
              rw [hr, if_pos rfl, hv']
            · cases e
              have hr := (by decide : ∀ i ∈ List.range 45, tG[i]? = some (some (9, true)) → runZ i = false) i hi h1
              have hv' : v = (.bool false : Value) := hv
              rw [hr, if_neg Bool.false_ne_true, hv']
              intro e; cases e
            · cases e
              have hr := (by decide : ∀ i ∈ List.range 45, tG[i]? = some (some (25, false)) → runZ i = false) i hi h1
              have hv' : v = (.bool true : Value) := hv
              rw [hr, if_neg Bool.false_ne_true, hv']
              intro e; cases e
            · cases e
              have hr := (by decide : ∀ i ∈ List.range 45, tG[i]? = some (some (30, true)) → runZ i = false) i hi h1
              have hv' : v = (undef : Value) := hv
              rw [hr, if_neg Bool.false_ne_true, hv']
              intro e; cases e
          case hng =>
            intro i o ho hr
            have hi : i ∈ List.range 45 := List.mem_range.2 (Array.getElem?_eq_some_iff.1 ho).1
            have h1 := (by decide : ∀ i ∈ List.range 45, runZ i = false → ((tG[i]?).bind id).isSome = true) i hi hr
            exact guard_some (by kernel_rfl) ho h1
          case hsk =>
            intro i us w2 hr _
            have h1 : i ∈ ([10, 11, 12, 13, 14, 15, 16, 17, 18, 26, 27, 28, 29, 30, 31, 32, 33, 34, 35, 36, 37, 38, 39, 40] : List Nat) := by
              unfold runZ at hr
              rw [Bool.not_eq_false'] at hr
              exact List.contains_iff_mem.1 hr
            simp only [List.mem_cons, List.not_mem_nil, or_false] at h1
            rcases h1 with rfl | rfl | rfl | rfl | rfl | rfl | rfl | rfl | rfl | rfl | rfl | rfl | rfl | rfl | rfl | rfl | rfl | rfl | rfl | rfl | rfl | rfl | rfl | rfl <;> rfl
          case refine_1 =>
            intro _ ac w2 hS h0 hd
            have o5 : ac.tmps[5]?.getD undef = .int .i64 (j : Nat) := ev (h0 5 (by kernel_rfl))
            refine Does2.value (.int .i64 (j : Nat)) (w' := w2) ?_ ⟨rfl, hS, tR_r _ _ _⟩
            clear hS h0 hd
            go_simp
          case refine_2 =>
            intro _ ac w2 hS h0 hd
            have o2 : ac.tmps[2]?.getD undef = .pointer (some ⟨Bb, 0, none⟩) := ev (h0 2 (by kernel_rfl))
            have ck := (hS.cell (cell_lt bB)).trans bB
            refine Does2.value (.slice (some ⟨gb, ob, none⟩) lb cb) (w' := w2) ?_ ⟨rfl, hS, tR_r _ _ _⟩
            clear hS h0 hd
            go_simp
          case refine_3 =>
            intro _ ac w2 hS h0 hd
            have d1 : ac.tmps[19]?.getD undef = .slice (some ⟨gb, ob, none⟩) lb cb := ev (hd 1 List.mem_cons_self)
            refine Does2.value (.int .i64 (lb : Nat)) (w' := w2) ?_ ⟨rfl, hS, tR_r _ _ _⟩
            clear hS h0 hd
            go_simp
          case refine_4 =>
            intro _ ac w2 hS h0 hd
            have d0 : ac.tmps[18]?.getD undef = .int .i64 (j : Nat) := ev (hd 0 List.mem_cons_self)
            have d2 : ac.tmps[20]?.getD undef = .int .i64 (lb : Nat) := ev (hd 2 (List.mem_cons_of_mem _ List.mem_cons_self))
            refine Does2.value (.bool false) (w' := w2) ?_ ⟨rfl, hS, tR_r _ _ _⟩
            clear hS h0 hd
            go_simp
          case refine_5 =>
            intro _ ac w2 hS h0 hd
            have d3 : ac.tmps[21]?.getD undef = .bool false := ev (hd 3 List.mem_cons_self)
            refine Does2.value (.bool false) (w' := w2) ?_ ⟨rfl, hS, tR_r _ _ _⟩
            clear hS h0 hd
            go_simp
          case refine_6 =>
            intro _ ac w2 hS h0 hd
            have o4 : ac.tmps[4]?.getD undef = .int .i64 (i : Nat) := ev (h0 4 (by kernel_rfl))
            have d4 : ac.tmps[22]?.getD undef = .bool false := ev (hd 4 List.mem_cons_self)
            refine Does2.value (.int .i64 (i : Nat)) (w' := w2) ?_ ⟨rfl, hS, tR_r _ _ _⟩
            clear hS h0 hd
            go_simp
          case refine_7 =>
            intro _ ac w2 hS h0 hd
            have o1 : ac.tmps[1]?.getD undef = .pointer (some ⟨Ba, 0, none⟩) := ev (h0 1 (by kernel_rfl))
            have d4 : ac.tmps[22]?.getD undef = .bool false := ev (hd 4 List.mem_cons_self)
            have ck := (hS.cell (cell_lt bA)).trans bA
            refine Does2.value (.slice a la ca) (w' := w2) ?_ ⟨rfl, hS, tR_r _ _ _⟩
            clear hS h0 hd
            go_simp
          case refine_8 =>
            intro _ ac w2 hS h0 hd
            have d6 : ac.tmps[24]?.getD undef = .slice a la ca := ev (hd 6 List.mem_cons_self)
            have d4 : ac.tmps[22]?.getD undef = .bool false := ev (hd 4 (List.mem_cons_of_mem _ List.mem_cons_self))
            refine Does2.value (.int .i64 (la : Nat)) (w' := w2) ?_ ⟨rfl, hS, tR_r _ _ _⟩
            clear hS h0 hd
            go_simp
          case refine_9 =>
            intro _ ac w2 hS h0 hd
            have d5 : ac.tmps[23]?.getD undef = .int .i64 (i : Nat) := ev (hd 5 List.mem_cons_self)
            have d7 : ac.tmps[25]?.getD undef = .int .i64 (la : Nat) := ev (hd 7 (List.mem_cons_of_mem _ List.mem_cons_self))
            have d4 : ac.tmps[22]?.getD undef = .bool false := ev (hd 4 (List.mem_cons_of_mem _ (List.mem_cons_of_mem _ List.mem_cons_self)))
            refine Does2.value (.bool false) (w' := w2) ?_ ⟨rfl, hS, tR_r _ _ _⟩
            clear hS h0 hd
            go_simp
          case refine_10 =>
            intro _ ac w2 hS h0 hd
            have d8 : ac.tmps[26]?.getD undef = .bool false := ev (hd 8 List.mem_cons_self)
            have d4 : ac.tmps[22]?.getD undef = .bool false := ev (hd 4 (List.mem_cons_of_mem _ List.mem_cons_self))
            refine Does2.value (.bool false) (w' := w2) ?_ ⟨rfl, hS, tR_r _ _ _⟩
            clear hS h0 hd
            go_simp
          case refine_11 => exact fun h => absurd h (by decide)
          case refine_12 => exact fun h => absurd h (by decide)
          case refine_13 => exact fun h => absurd h (by decide)
          case refine_14 => exact fun h => absurd h (by decide)
          case refine_15 => exact fun h => absurd h (by decide)
          case refine_16 => exact fun h => absurd h (by decide)
          case refine_17 => exact fun h => absurd h (by decide)
          case refine_18 => exact fun h => absurd h (by decide)
          case refine_19 => exact fun h => absurd h (by decide)
          case refine_20 =>
            intro _ ac w2 hS h0 hd
            have d9 : ac.tmps[27]?.getD undef = .bool false := ev (hd 9 List.mem_cons_self)
            have d18 : ac.tmps[36]?.getD undef = undef := ev (hd 18 (List.mem_cons_of_mem _ List.mem_cons_self))
            have d4 : ac.tmps[22]?.getD undef = .bool false := ev (hd 4 (List.mem_cons_of_mem _ (List.mem_cons_of_mem _ List.mem_cons_self)))
            refine Does2.value (.bool false) (w' := w2) ?_ ⟨rfl, hS, tR_r _ _ _⟩
            clear hS h0 hd
            go_simp
          case refine_21 =>
            intro _ ac w2 hS h0 hd
            have d4 : ac.tmps[22]?.getD undef = .bool false := ev (hd 4 List.mem_cons_self)
            have d19 : ac.tmps[37]?.getD undef = .bool false := ev (hd 19 (List.mem_cons_of_mem _ List.mem_cons_self))
            refine Does2.value (.bool false) (w' := w2) ?_ ⟨rfl, hS, tR_r _ _ _⟩
            clear hS h0 hd
            go_simp
          case refine_22 =>
            intro _ ac w2 hS h0 hd
            have o4 : ac.tmps[4]?.getD undef = .int .i64 (i : Nat) := ev (h0 4 (by kernel_rfl))
            refine Does2.value (.int .i64 (i : Nat)) (w' := w2) ?_ ⟨rfl, hS, tR_r _ _ _⟩
            clear hS h0 hd
            go_simp
          case refine_23 =>
            intro _ ac w2 hS h0 hd
            have o1 : ac.tmps[1]?.getD undef = .pointer (some ⟨Ba, 0, none⟩) := ev (h0 1 (by kernel_rfl))
            have ck := (hS.cell (cell_lt bA)).trans bA
            refine Does2.value (.slice a la ca) (w' := w2) ?_ ⟨rfl, hS, tR_r _ _ _⟩
            clear hS h0 hd
            go_simp
          case refine_24 =>
            intro _ ac w2 hS h0 hd
            have d22 : ac.tmps[40]?.getD undef = .slice a la ca := ev (hd 22 List.mem_cons_self)
            refine Does2.value (.int .i64 (la : Nat)) (w' := w2) ?_ ⟨rfl, hS, tR_r _ _ _⟩
            clear hS h0 hd
            go_simp
          case refine_25 =>
            intro _ ac w2 hS h0 hd
            have d21 : ac.tmps[39]?.getD undef = .int .i64 (i : Nat) := ev (hd 21 List.mem_cons_self)
            have d23 : ac.tmps[41]?.getD undef = .int .i64 (la : Nat) := ev (hd 23 (List.mem_cons_of_mem _ List.mem_cons_self))
            refine Does2.value (.bool true) (w' := w2) ?_ ⟨rfl, hS, tR_r _ _ _⟩
            clear hS h0 hd
            go_simp
          case refine_26 =>
            intro _ ac w2 hS h0 hd
            have d24 : ac.tmps[42]?.getD undef = .bool true := ev (hd 24 List.mem_cons_self)
            refine Does2.value (.bool true) (w' := w2) ?_ ⟨rfl, hS, tR_r _ _ _⟩
            clear hS h0 hd
            go_simp
          case refine_27 => exact fun h => absurd h (by decide)
          case refine_28 => exact fun h => absurd h (by decide)
          case refine_29 => exact fun h => absurd h (by decide)
          case refine_30 => exact fun h => absurd h (by decide)
          case refine_31 => exact fun h => absurd h (by decide)
          case refine_32 => exact fun h => absurd h (by decide)
          case refine_33 => exact fun h => absurd h (by decide)
          case refine_34 => exact fun h => absurd h (by decide)
          case refine_35 => exact fun h => absurd h (by decide)
          case refine_36 => exact fun h => absurd h (by decide)
          case refine_37 => exact fun h => absurd h (by decide)
          case refine_38 => exact fun h => absurd h (by decide)
          case refine_39 => exact fun h => absurd h (by decide)
          case refine_40 => exact fun h => absurd h (by decide)
          case refine_41 => exact fun h => absurd h (by decide)
          case refine_42 =>
            intro _ ac w2 hS h0 hd
            have d25 : ac.tmps[43]?.getD undef = .bool true := ev (hd 25 List.mem_cons_self)
            have d40 : ac.tmps[58]?.getD undef = undef := ev (hd 40 (List.mem_cons_of_mem _ List.mem_cons_self))
            refine Does2.value (.bool true) (w' := w2) ?_ ⟨rfl, hS, tR_r _ _ _⟩
            clear hS h0 hd
            go_simp
          case refine_43 =>
            intro _ ac w2 hS h0 hd
            have d20 : ac.tmps[38]?.getD undef = .bool false := ev (hd 20 List.mem_cons_self)
            have d41 : ac.tmps[59]?.getD undef = .bool true := ev (hd 41 (List.mem_cons_of_mem _ List.mem_cons_self))
            refine Does2.value (.agg #[.bool false, .bool true]) (w' := w2) ?_ ⟨rfl, hS, tR_r _ _ _⟩
            clear hS h0 hd
            go_simp
          case refine_44 =>
            intro _ ac w2 hS h0 hd
            refine Does2.value (.pointer (some ⟨w2.heap.size, 0, none⟩)) (w' := w2.alloc (.cells #[.bool false, .bool false] 177)) ?_ ⟨⟨w2.heap.size, rfl, hS.size, _, Go.Deep.blk_alloc_new _ _, rfl⟩, hS.alloc hS.size _, .inr ((Below.refl _ _).alloc (Nat.le_refl _) _), fun B c _ h1 h2 => ⟨c, by rw [((Below.refl w2.heap.size w2).alloc (Nat.le_refl _) _).block B (Array.getElem?_eq_some_iff.1 h1).1]; exact h1, h2⟩⟩
            clear hS h0 hd
            go_simp
          case refine_45 =>
            intro _ ac w2 hS h0 hd
            obtain ⟨B, eB, hB, cc, hc1, hc2⟩ := hd 43 List.mem_cons_self
            have eB' : ac.tmps[6]?.getD undef = .pointer (some ⟨B, 0, none⟩) := ev eB
            obtain ⟨c0, c1, rfl⟩ : ∃ c0 c1, cc = #[c0, c1] := by
              obtain ⟨l⟩ := cc
              match l, hc2 with
              | [x0, x1], _ => exact ⟨x0, x1, rfl⟩
            have d42 : ac.tmps[60]?.getD undef = .agg #[.bool false, .bool true] := ev (hd 42 (List.mem_cons_of_mem _ List.mem_cons_self))
            obtain ⟨k0, k1, f0, f1, hb2⟩ := two_cells hc1 (.bool false) (.bool true)
            refine Does2.skip (w' := (w2.setCell ⟨B, 0, none⟩ (.bool false)).setCell ⟨B, 1, none⟩ (.bool true)) ?_ ⟨⟨B, _, by simp [valAt, tD]; exact ⟨eB, rfl⟩, hB, hb2⟩, (hS.setCell (p := ⟨B, 0, none⟩) hB _).setCell (p := ⟨B, 1, none⟩) hB _, .inl rfl, fun B' c hB' h1 h2 => ?_⟩
            · clear hS h0 hd
              go_simp
            · by_cases e : B' = B
              · subst e; exact ⟨_, hb2, rfl⟩
              · refine ⟨c, ?_, h2⟩
                rw [Below.heap_setCell _ ⟨B, 1, none⟩ _ B' e, Below.heap_setCell _ ⟨B, 0, none⟩ _ B' e]
                exact h1
          case hend =>
            intro f w2 hS hV
            obtain ⟨B, e6, hBN, _⟩ := hV 43 (by decide)
            have e6 : f 6 = .pointer (some ⟨B, 0, none⟩) := e6
            obtain ⟨B2, u, eus, _, hbl⟩ := hV 44 (by decide)
            have eB : B2 = B := by
              have h1 : some (f 6) = some (.pointer (some ⟨B2, 0, none⟩)) := congrArg (fun l : List Value => l.head?) eus
              rw [e6] at h1; simp at h1; exact h1.symm
            subst eB
            obtain ⟨k0, k1, f0, f1, _⟩ := two_cells hbl undef undef
            have bA2 := (hS.cell (cell_lt bA)).trans bA
            have bB2 := (hS.cell (cell_lt bB)).trans bB
            have cy2 := (hS.cell (cell_lt cy)).trans cy
            have HK2 := Lib.hid (kp2_below HK.out (Nat.le_trans hW hsz) hS)
            have HJ2 := Lib.hid (HJ.out pre wr w2 none HJS.out (grown_of_below hS) (fun r e => by cases e))
            have hsz2 : W.heap.size ≤ w2.heap.size := Nat.le_trans hsz hS.size
            simp only [putAll, Act.put, List.setIfInBounds_toArray, List.set_cons_zero, List.set_cons_succ, e6]
            clear hS hV eus hbl e6

            have hthr : thr (xs.drop i) (ys.drop j) = (y, false, true) :: thr (xs.drop i) (ys.drop (j + 1)) := by rw [drop_end (l := xs) (i := i) (by rw [HX.out]; omega), drop_cons (l := ys) (i := j) (by rw [HY.out]; exact hjl), HYV.out, thr_r]
            have hlen : pre.length < (thr xs ys).length := by rw [← HP.out, hthr]; simp
            have HN : Hid ((pre ++ [(y, false, true)]) ++ thr (xs.drop i) (ys.drop (j + 1)) = thr xs ys) := Lib.hid (by rw [← HP.out, hthr]; simp)
            clear hthr
            obtain ⟨fn, tmps, assign, body, hy, hR⟩ := hY pre (y, false, true) w2 HJ2.out hlen
            dsimp only at hy
            gi_wp2
            refine hR.mono ?_
            rintro e W3 (⟨rfl, hJ3, hk3⟩ | ⟨rfl, hJx3⟩)
            · gi_wp2
              go_roundw
              case rel => exact ⟨i, (j + 1), _, rfl, by go_num, by omega, by omega, HN.out, hJ3, kp2_t HK2.out hk3, Nat.le_trans hsz2 hk3.1.size⟩
              case measure => simp [intOf]; omega
            · gi_wp2
              refine bodyPost_ret (results_none rfl _ _ _) rfl ?_
              exact ⟨⟨_, rfl⟩, .inr ⟨_, trivial, hJx3⟩⟩
      · have hjz : ¬ ((j : Int) < (lb : Int)) := by omega
        have hend : pre = thr xs ys := by
          rw [← HP.out, drop_end (l := xs) (i := i) (by rw [HX.out]; omega), drop_end (l := ys) (i := j) (by rw [HY.out]; omega), thr_nil, List.append_nil]
        have HE := Lib.hid hend
        clear hend
        gi_wp2
        go_end0
        exact ⟨⟨_, rfl⟩, .inl (by rw [← HE.out]; exact HJS.out)⟩
end Go.Proofs.YtiabbkjmgaemaaaGreat
/- Package set's those: what stays of two rows gone through at once. -/
namespace Go.Proofs.YtiabbkjmgaemaaaGreat
set_option linter.unusedVariables false
open Go.RowKit Go.Shelf
attribute [local go_sem] Oper.semAt_some

/-- Two rows gone through, to the end. -/
theorem thr_stops (n : Nat) (hn : 1 ≤ n) (Ba Bb : Nat) (a b : Option Addr) (la lb ca cb : Nat) (xs ys : List Int) (hx : xs.length = la) (hy : ys.length = lb) (hla : la ≤ 1000000) (hlb : lb ≤ 1000000)
    (w0 w : World) (hb0 : Below w0.heap.size w0 w) (hBa : Ba < w.heap.size) (hBb : Bb < w.heap.size) (hA : w.cell? ⟨Ba, 0, none⟩ = some (.slice a la ca)) (hB : w.cell? ⟨Bb, 0, none⟩ = some (.slice b lb cb)) (h1 : As w0 a xs) (h2 : As w0 b ys) :
    SeqStopsK Fence.wide n Tryz.prog 181 #[.pointer (some ⟨Ba, 0, none⟩), .pointer (some ⟨Bb, 0, none⟩)] (fun x : Z3 => #[Value.int .u32 x.1, .agg #[.bool x.2.1, .bool x.2.2]]) (Kp2 w0.heap.size Ba Bb) (fun zs => zs = thr xs ys) (fun _ => True) (thr xs ys).length w := fun l J Jx W hW hJ _ hY h0 => by
  have k : ∀ {c : Option Addr} {zs : List Int} {m : Nat}, zs.length = m → As w0 c zs → zs = [] ∨ ∃ g off, c = some ⟨g, off, none⟩ ∧ g < w0.heap.size ∧ ∀ k, k < m → W.cell? ⟨g, off + k, none⟩ = some (.int .u32 (zs.getD k 0)) := by
    intro c zs m hm h
    by_cases hz : zs = []
    · exact .inl hz
    · rcases h.1 with e | ⟨g, off, e, hc⟩
      · exact .inl e
      · have hpos : 0 < zs.length := List.length_pos_iff.2 hz
        have hg : g < w0.heap.size := cell_lt (hc 0 hpos)
        exact .inr ⟨g, off, e, hg, fun k hk => ((hb0.trans (hW.mono hb0.size)).cell (p := ⟨g, off + k, none⟩) hg).trans (hc k (by omega))⟩
  exact thr1_in n hn l Ba Bb w0.heap.size la lb ca cb a b xs ys hx hy hla hlb J Jx W hJ (Nat.le_trans hb0.size hW.size) hY ((hW.cell (p := ⟨Ba, 0, none⟩) hBa).trans hA) ((hW.cell (p := ⟨Bb, 0, none⟩) hBb).trans hB) (k hx h1) (k hy h2) h0

theorem Boxed.thru {W w1 : World} {n₀ B B' : Nat} {t e : TypeId} {size k : Nat} {u v v' : Value} {xs : List Value} {tmp : Obj} (h : Boxed W B t u) (hte : t ≠ e) (hrow : W.ownsRow n₀ e size v k xs) (hgrow : (W.alloc tmp).grownBy w1 v.ownBlock) (hne : B ≠ B') : Boxed (w1.setCell ⟨B', 0, none⟩ v') B t u :=
  Boxed.other (Boxed.kept (Boxed.alloc h tmp) hgrow (Boxed.not_row h hte hrow)) hne v'
theorem sThrough (a b : Option Addr) (la lb ca cb : Nat) (w : World) :
    Calls Tryz.prog 156 #[.slice a la ca, .slice b lb cb] w fun e w' => e = .returned (.func (.func 181) #[] #[.pointer (some ⟨w.heap.size, 0, none⟩), .pointer (some ⟨w.heap.size + 1, 0, none⟩)]) ∧
      w' = (w.alloc (.cells #[.slice a la ca] 29)).alloc (.cells #[.slice b lb cb] 29) := by
  go_enter Tryz.func156, Tryz.ntmps156
  go_wp2
  go_ret
  exact ⟨by simp, rfl⟩

/-- What stays of what has come. -/
def stays (p : Bool → Bool → Bool) (l : List Z3) : List Int := (l.filter fun t => p t.2.1 t.2.2).map (·.1)
theorem stays_thr (p : Bool → Bool → Bool) (a b : List Int) : stays p (thr a b) = those p a b := rfl
theorem stays_yes {p : Bool → Bool → Bool} {l : List Z3} {x : Z3} (h : p x.2.1 x.2.2 = true) : stays p (l ++ [x]) = stays p l ++ [x.1] := by
  unfold stays
  rw [List.filter_append, List.map_append]
  simp [h]
theorem stays_no {p : Bool → Bool → Bool} {l : List Z3} {x : Z3} (h : p x.2.1 x.2.2 = false) : stays p (l ++ [x]) = stays p l := by
  unfold stays
  rw [List.filter_append, List.map_append]
  simp [h]
theorem stays_len (p : Bool → Bool → Bool) (l : List Z3) : (stays p l).length ≤ l.length := by
  unfold stays
  rw [List.length_map]
  exact List.length_filter_le _ _

theorem stI (p q : Bool) (w : World) : Calls Tryz.prog 137 #[.agg #[.bool p, .bool q]] w fun e w' => e = .returned (.bool (p && q)) ∧ w' = w.alloc (.cells #[.bool p, .bool q] 177) := by
  cases p <;> cases q <;>
  · go_enter Tryz.func137, Tryz.ntmps137
    go_wp2
    go_ret
    exact ⟨rfl, rfl⟩
set_option maxRecDepth 100000 in
set_option maxHeartbeats 4000000 in
theorem thoseI_in (a b : Option Addr) (la lb ca cb : Nat) (xs ys : List Int) (w : World) (hx : xs.length = la) (hy : ys.length = lb) (hla : la ≤ 400000) (hlb : lb ≤ 400000) (h1 : As w a xs) (h2 : As w b ys) :
    CallsIn Fence.wide 5 Tryz.prog 134 #[.slice a la ca, .slice b lb cb, .func (.func 137) #[] #[]] w fun e w' =>
      ∃ v, e = .returned v ∧ w'.ownsRow w.heap.size 25 1 v (those (fun p q => p && q) xs ys).length (va (those (fun p q => p && q) xs ys)) ∧ Below w.heap.size w w' := by
  have hth := thr_len xs ys
  rw [hx, hy] at hth
  have HX := Lib.hid hx
  have HY := Lib.hid hy
  have H1 := Lib.hid h1
  have H2 := Lib.hid h2
  clear hx hy h1 h2
  refine callsIn_of_wp_marks Tryz.func134 rfl trivial ?_ rfl
  simp only [Tryz.ntmps134, List.size_toArray, List.length_cons, List.length_nil, Nat.reduceAdd, Nat.reduceSub, Array.replicate_succ, Array.replicate_zero, List.push_toArray, List.append_toArray, List.nil_append, List.cons_append]
  gi_wp2_with (refine ⟨trivial, ?_⟩; gi_at_call 156; refine (callsIn_wide.2 (sThrough _ _ _ _ _ _ _)).mono ?_; rintro e w' ⟨rfl, rfl⟩)
  have bF := (((Boxed.new w 178 (.func (.func 137) #[] #[])).alloc (.cells #[.slice none 0 0] 29)).alloc (.cells #[.slice a la ca] 29)).alloc (.cells #[.slice b lb cb] 29)
  have bL := ((Boxed.new (w.alloc (.cells #[.func (.func 137) #[] #[]] 178)) 29 (.slice none 0 0)).alloc (.cells #[.slice a la ca] 29)).alloc (.cells #[.slice b lb cb] 29)
  have bA := (Boxed.new ((w.alloc (.cells #[.func (.func 137) #[] #[]] 178)).alloc (.cells #[.slice none 0 0] 29)) 29 (.slice a la ca)).alloc (.cells #[.slice b lb cb] 29)
  have bB := Boxed.new (((w.alloc (.cells #[.func (.func 137) #[] #[]] 178)).alloc (.cells #[.slice none 0 0] 29)).alloc (.cells #[.slice a la ca] 29)) 29 (.slice b lb cb)
  simp only [World.size_alloc] at bF bL bA bB
  have hB0 : Below w.heap.size w ((((w.alloc (.cells #[.func (.func 137) #[] #[]] 178)).alloc (.cells #[.slice none 0 0] 29)).alloc (.cells #[.slice a la ca] 29)).alloc (.cells #[.slice b lb cb] 29)) := ((((Below.refl _ w).alloc (Nat.le_refl _) _).alloc (by simp) _).alloc (by simp; omega) _).alloc (by simp; omega) _
  have hsz : ((((w.alloc (.cells #[.func (.func 137) #[] #[]] 178)).alloc (.cells #[.slice none 0 0] 29)).alloc (.cells #[.slice a la ca] 29)).alloc (.cells #[.slice b lb cb] 29)).heap.size = w.heap.size + 4 := by simp
  obtain ⟨W0, hW0⟩ : ∃ W0, (((w.alloc (.cells #[.func (.func 137) #[] #[]] 178)).alloc (.cells #[.slice none 0 0] 29)).alloc (.cells #[.slice a la ca] 29)).alloc (.cells #[.slice b lb cb] 29) = W0 := ⟨_, rfl⟩
  rw [hW0] at bF bL bA bB hB0 hsz ⊢
  clear hW0
  obtain ⟨i0, hi, hz0, hz1, hz2⟩ := info_parts infoA
  refine wpIn_rangeFunc_ownH rfl (by omega) (gf := 181) (lb := #[.pointer (some ⟨w.heap.size + 1 + 1, 0, none⟩), .pointer (some ⟨w.heap.size + 1 + 1 + 1, 0, none⟩)]) rfl trivial (enters_of Tryz.func181 (by kernel_rfl) rfl)
    (thr_stops _ (by omega) (w.heap.size + 1 + 1) (w.heap.size + 1 + 1 + 1) a b la lb ca cb xs ys HX.out HY.out (by omega) (by omega) w W0 hB0 (by omega) (by omega) bA.cell bB.cell H1.out H2.out) kp2_t (kp2_b (by omega)) (Below.refl _ _) (fun _ => rfl)
    (fun pre W => (∃ v, Boxed W (w.heap.size + 1) 29 v ∧ W.ownsRow w.heap.size 25 1 v (stays (fun p q => p && q) pre).length (va (stays (fun p q => p && q) pre)) ∧ True) ∧
      ((Boxed W w.heap.size 178 (.func (.func 137) #[] #[]) ∧ Boxed W (w.heap.size + 1 + 1) 29 (.slice a la ca)) ∧ Boxed W (w.heap.size + 1 + 1 + 1) 29 (.slice b lb cb)) ∧ Below w.heap.size w W)
    (fun _ _ _ => False)
    (OwnFrom.and (Own.from (holdsRow_own w.heap.size (w.heap.size + 1) 29 25 1 (fun pre => (stays (fun p q => p && q) pre).length) (fun pre => va (stays (fun p q => p && q) pre)) (fun _ _ => True)) _)
      (OwnFrom.and (OwnFrom.and (OwnFrom.and (Own.from (boxed_own _ _ (fun _ => _)) _) (Own.from (boxed_own _ _ (fun _ => _)) _)) (Own.from (boxed_own _ _ (fun _ => _)) _)) (ownFrom_below (Nat.le_refl _) (by omega))))
    (fun _ _ _ _ _ hs _ _ => hs)
    ⟨⟨_, bL, World.ownsRow_nil _ _ _ _, trivial⟩, ⟨⟨bF, bA⟩, bB⟩, hB0⟩
    (fun x a' W => ∃ Bx, w.heap.size + 3 < Bx ∧ W.heap[Bx]? = some (.cells #[.bool x.2.1, .bool x.2.2] 177 (0, 0)) ∧ a' = { tmps := #[.slice a la ca, .slice b lb cb, .func (.func 137) #[] #[], undef, undef, .pointer (some ⟨w.heap.size, 0, none⟩), .slice none 0 0, .pointer (some ⟨w.heap.size + 1, 0, none⟩), .int .u32 x.1, .pointer (some ⟨Bx, 0, none⟩), .slice a la ca, .slice b lb cb, .func (.func 181) #[] #[.pointer (some ⟨w.heap.size + 1 + 1, 0, none⟩), .pointer (some ⟨w.heap.size + 1 + 1 + 1, 0, none⟩)], .int .u32 x.1, .agg #[.bool x.2.1, .bool x.2.2], undef, undef, undef, undef, undef, undef, undef, undef], defers := [] })
    ?hAx ?assign ?body ?done ?stop
  case hAx =>
    rintro x a' s X Y row ⟨Bx, h1, h2, h3⟩ hg hrow
    refine ⟨Bx, h1, (hg.block Bx (Array.getElem?_eq_some_iff.1 h2).1 fun e => ?_).trans h2, h3⟩
    obtain ⟨_, o, ho, hc⟩ := hrow Bx e.symm
    rw [h2] at ho; cases ho; cases hc
  case assign =>
    rintro l pre x W K ⟨⟨v, hv, hrow, _⟩, ⟨⟨bF, bA⟩, bB⟩, hB⟩ hK
    have hsW : w.heap.size + 4 ≤ W.heap.size := by
      have := bB.lt
      omega
    gi_wp2
    refine hK _ _ ((KeepsOthers.alloc _ _).from _) (kp2_below kp2_r hB.size (bel1 W _)) ⟨⟨v, hv.alloc _, hrow.alloc _, trivial⟩, ⟨⟨bF.alloc _, bA.alloc _⟩, bB.alloc _⟩, hB.alloc hB.size _⟩ ⟨W.heap.size, by omega, Go.Deep.blk_alloc_new _ _, rfl⟩
  case body =>
    rintro l pre x a' W hl ⟨r, hr⟩ ⟨⟨v, hv, hrow, _⟩, ⟨⟨bF, bA⟩, bB⟩, hB⟩ ⟨Bx, hBx, bX, rfl⟩ hlt
    obtain ⟨z, p, q⟩ := x
    obtain ⟨k0, k1, _, _, _⟩ := two_cells bX undef undef
    have hlen := stays_len (fun p q => p && q) pre
    have hsW : w.heap.size + 4 ≤ W.heap.size := by
      have := bB.lt
      omega
    have hFc := bF.cell
    have hv' := hv.alloc (.cells #[.bool p, .bool q] 177)
    have hrow' := hrow.alloc (.cells #[.bool p, .bool q] 177)
    have hLc := hv'.cell
    have HV := Lib.hid hv
    have HV' := Lib.hid hv'
    have HR := Lib.hid hrow
    have HR' := Lib.hid hrow'
    have BF := Lib.hid bF
    have BA := Lib.hid bA
    have BB := Lib.hid bB
    have HB := Lib.hid hB
    clear hv hv' hrow hrow' bF bA bB hB bX
    dsimp only
    cases p <;> cases q
    · gi_wp2_with (refine ⟨trivial, ?_⟩; gi_at_call 137; refine (CallsIn.inRound l (callsIn_wide.2 (stI _ _ _))).mono ?_; rintro e w' ⟨rfl, rfl⟩)
      refine ⟨(KeepsOthers.alloc _ _).from _, kp2_below kp2_r HB.out.size (bel1 W _), ⟨_, HV'.out, ?_, trivial⟩, ⟨⟨BF.out.alloc _, BA.out.alloc _⟩, BB.out.alloc _⟩, HB.out.alloc HB.out.size _⟩
      rw [stays_no rfl]
      exact HR'.out
    · gi_wp2_with (refine ⟨trivial, ?_⟩; gi_at_call 137; refine (CallsIn.inRound l (callsIn_wide.2 (stI _ _ _))).mono ?_; rintro e w' ⟨rfl, rfl⟩)
      refine ⟨(KeepsOthers.alloc _ _).from _, kp2_below kp2_r HB.out.size (bel1 W _), ⟨_, HV'.out, ?_, trivial⟩, ⟨⟨BF.out.alloc _, BA.out.alloc _⟩, BB.out.alloc _⟩, HB.out.alloc HB.out.size _⟩
      rw [stays_no rfl]
      exact HR'.out
    · gi_wp2_with (refine ⟨trivial, ?_⟩; gi_at_call 137; refine (CallsIn.inRound l (callsIn_wide.2 (stI _ _ _))).mono ?_; rintro e w' ⟨rfl, rfl⟩)
      refine ⟨(KeepsOthers.alloc _ _).from _, kp2_below kp2_r HB.out.size (bel1 W _), ⟨_, HV'.out, ?_, trivial⟩, ⟨⟨BF.out.alloc _, BA.out.alloc _⟩, BB.out.alloc _⟩, HB.out.alloc HB.out.size _⟩
      rw [stays_no rfl]
      exact HR'.out
    · have hn1 := news_new (W.alloc (.cells #[.bool true, .bool true] 177)) [.int .u32 z] 25
      rw [World.size_alloc] at hn1
      have HN1 := Lib.hid hn1
      clear hn1
      gi_wp2_with (first | (refine ⟨trivial, ?_⟩; gi_at_call 137; refine (CallsIn.inRound l (callsIn_wide.2 (stI _ _ _))).mono ?_; rintro e w' ⟨rfl, rfl⟩) | (gi_at_builtin; refine wpListIn_append_own _ rfl _ _ 29 rfl w.heap.size 25 i0 (.int .u32 0) 1 4 Tryz.underlying29 hi hz0 hz1 hz2 rfl (by decide) _ _ _ rfl (HR'.out.alloc _) ⟨W.heap.size + 1, 0, none⟩ 1 1 [.int .u32 z] rfl rfl HN1.out (one32 z) (by unfold maxLen; omega) (by omega) (by simp; omega) ?_; intro v' w1 hown' hgrow _; obtain ⟨g', cap', rfl⟩ := ownsRow_succ hown'; obtain ⟨hv1, hv2, hr2, hk2, hb2⟩ := HV'.out.appended (by decide) HR'.out (by simp; omega) (by omega) hown' hgrow; have hc1 := hv1.cell; have hf1 := hv1.frozen))
      have F3 := Boxed.thru (BF.out.alloc _) (by decide) HR'.out hgrow (B' := w.heap.size + 1) (by omega) (v' := .slice (some ⟨g', 0, none⟩) ((stays (fun p q => p && q) pre).length + 1) cap')
      have A3 := Boxed.thru (BA.out.alloc _) (by decide) HR'.out hgrow (B' := w.heap.size + 1) (by omega) (v' := .slice (some ⟨g', 0, none⟩) ((stays (fun p q => p && q) pre).length + 1) cap')
      have B3 := Boxed.thru (BB.out.alloc _) (by decide) HR'.out hgrow (B' := w.heap.size + 1) (by omega) (v' := .slice (some ⟨g', 0, none⟩) ((stays (fun p q => p && q) pre).length + 1) cap')
      have hbel := ((Below.refl w.heap.size W).alloc (o := .cells #[.bool true, .bool true] 177) HB.out.size).trans hb2
      refine ⟨((KeepsOthers.alloc _ _).trans hk2).from _, ⟨hbel, fun u e => ?_, fun u e => ?_⟩, ⟨_, hv2, ?_, trivial⟩, ⟨⟨F3, A3⟩, B3⟩, HB.out.trans hbel⟩
      · rw [BA.out.cell] at e; rw [A3.cell]; exact e
      · rw [BB.out.cell] at e; rw [B3.cell]; exact e
      · rw [stays_yes rfl, va_snoc, List.length_append]
        exact hr2
  case done =>
    rintro D zs W hD rfl ⟨⟨v, hv, hrow, _⟩, _, hB⟩ hK
    have hLc := hv.cell
    have HV := Lib.hid hv
    have HR := Lib.hid hrow
    have HB := Lib.hid hB
    clear hv hrow hB
    gi_wp2
    refine ⟨by simp, .inl ⟨_, _, rfl, run_takeDeferred hK, ?_⟩⟩
    exact ⟨_, results_tmp rfl _ _ _, v, rfl, ownsRow_putObj HR.out _ hK rfl, HB.out.trans (belowK_b (w := w) (Nat.le_refl _) W D _ _ (by omega) hK rfl rfl)⟩
  case stop =>
    rintro D c pre W _ _ h _
    exact h.elim

theorem stM (p q : Bool) (w : World) : Calls Tryz.prog 135 #[.agg #[.bool p, .bool q]] w fun e w' => e = .returned (.bool (p && !q)) ∧ w' = w.alloc (.cells #[.bool p, .bool q] 177) := by
  cases p <;> cases q <;>
  · go_enter Tryz.func135, Tryz.ntmps135
    go_wp2
    go_ret
    exact ⟨rfl, rfl⟩
set_option maxRecDepth 100000 in
set_option maxHeartbeats 4000000 in
theorem thoseM_in (a b : Option Addr) (la lb ca cb : Nat) (xs ys : List Int) (w : World) (hx : xs.length = la) (hy : ys.length = lb) (hla : la ≤ 400000) (hlb : lb ≤ 400000) (h1 : As w a xs) (h2 : As w b ys) :
    CallsIn Fence.wide 5 Tryz.prog 134 #[.slice a la ca, .slice b lb cb, .func (.func 135) #[] #[]] w fun e w' =>
      ∃ v, e = .returned v ∧ w'.ownsRow w.heap.size 25 1 v (those (fun p q => p && !q) xs ys).length (va (those (fun p q => p && !q) xs ys)) ∧ Below w.heap.size w w' := by
  have hth := thr_len xs ys
  rw [hx, hy] at hth
  have HX := Lib.hid hx
  have HY := Lib.hid hy
  have H1 := Lib.hid h1
  have H2 := Lib.hid h2
  clear hx hy h1 h2
  refine callsIn_of_wp_marks Tryz.func134 rfl trivial ?_ rfl
  simp only [Tryz.ntmps134, List.size_toArray, List.length_cons, List.length_nil, Nat.reduceAdd, Nat.reduceSub, Array.replicate_succ, Array.replicate_zero, List.push_toArray, List.append_toArray, List.nil_append, List.cons_append]
  gi_wp2_with (refine ⟨trivial, ?_⟩; gi_at_call 156; refine (callsIn_wide.2 (sThrough _ _ _ _ _ _ _)).mono ?_; rintro e w' ⟨rfl, rfl⟩)
  have bF := (((Boxed.new w 178 (.func (.func 135) #[] #[])).alloc (.cells #[.slice none 0 0] 29)).alloc (.cells #[.slice a la ca] 29)).alloc (.cells #[.slice b lb cb] 29)
  have bL := ((Boxed.new (w.alloc (.cells #[.func (.func 135) #[] #[]] 178)) 29 (.slice none 0 0)).alloc (.cells #[.slice a la ca] 29)).alloc (.cells #[.slice b lb cb] 29)
  have bA := (Boxed.new ((w.alloc (.cells #[.func (.func 135) #[] #[]] 178)).alloc (.cells #[.slice none 0 0] 29)) 29 (.slice a la ca)).alloc (.cells #[.slice b lb cb] 29)
  have bB := Boxed.new (((w.alloc (.cells #[.func (.func 135) #[] #[]] 178)).alloc (.cells #[.slice none 0 0] 29)).alloc (.cells #[.slice a la ca] 29)) 29 (.slice b lb cb)
  simp only [World.size_alloc] at bF bL bA bB
  have hB0 : Below w.heap.size w ((((w.alloc (.cells #[.func (.func 135) #[] #[]] 178)).alloc (.cells #[.slice none 0 0] 29)).alloc (.cells #[.slice a la ca] 29)).alloc (.cells #[.slice b lb cb] 29)) := ((((Below.refl _ w).alloc (Nat.le_refl _) _).alloc (by simp) _).alloc (by simp; omega) _).alloc (by simp; omega) _
  have hsz : ((((w.alloc (.cells #[.func (.func 135) #[] #[]] 178)).alloc (.cells #[.slice none 0 0] 29)).alloc (.cells #[.slice a la ca] 29)).alloc (.cells #[.slice b lb cb] 29)).heap.size = w.heap.size + 4 := by simp
  obtain ⟨W0, hW0⟩ : ∃ W0, (((w.alloc (.cells #[.func (.func 135) #[] #[]] 178)).alloc (.cells #[.slice none 0 0] 29)).alloc (.cells #[.slice a la ca] 29)).alloc (.cells #[.slice b lb cb] 29) = W0 := ⟨_, rfl⟩
  rw [hW0] at bF bL bA bB hB0 hsz ⊢
  clear hW0
  obtain ⟨i0, hi, hz0, hz1, hz2⟩ := info_parts infoA
  refine wpIn_rangeFunc_ownH rfl (by omega) (gf := 181) (lb := #[.pointer (some ⟨w.heap.size + 1 + 1, 0, none⟩), .pointer (some ⟨w.heap.size + 1 + 1 + 1, 0, none⟩)]) rfl trivial (enters_of Tryz.func181 (by kernel_rfl) rfl)
    (thr_stops _ (by omega) (w.heap.size + 1 + 1) (w.heap.size + 1 + 1 + 1) a b la lb ca cb xs ys HX.out HY.out (by omega) (by omega) w W0 hB0 (by omega) (by omega) bA.cell bB.cell H1.out H2.out) kp2_t (kp2_b (by omega)) (Below.refl _ _) (fun _ => rfl)
    (fun pre W => (∃ v, Boxed W (w.heap.size + 1) 29 v ∧ W.ownsRow w.heap.size 25 1 v (stays (fun p q => p && !q) pre).length (va (stays (fun p q => p && !q) pre)) ∧ True) ∧
      ((Boxed W w.heap.size 178 (.func (.func 135) #[] #[]) ∧ Boxed W (w.heap.size + 1 + 1) 29 (.slice a la ca)) ∧ Boxed W (w.heap.size + 1 + 1 + 1) 29 (.slice b lb cb)) ∧ Below w.heap.size w W)
    (fun _ _ _ => False)
    (OwnFrom.and (Own.from (holdsRow_own w.heap.size (w.heap.size + 1) 29 25 1 (fun pre => (stays (fun p q => p && !q) pre).length) (fun pre => va (stays (fun p q => p && !q) pre)) (fun _ _ => True)) _)
      (OwnFrom.and (OwnFrom.and (OwnFrom.and (Own.from (boxed_own _ _ (fun _ => _)) _) (Own.from (boxed_own _ _ (fun _ => _)) _)) (Own.from (boxed_own _ _ (fun _ => _)) _)) (ownFrom_below (Nat.le_refl _) (by omega))))
    (fun _ _ _ _ _ hs _ _ => hs)
    ⟨⟨_, bL, World.ownsRow_nil _ _ _ _, trivial⟩, ⟨⟨bF, bA⟩, bB⟩, hB0⟩
    (fun x a' W => ∃ Bx, w.heap.size + 3 < Bx ∧ W.heap[Bx]? = some (.cells #[.bool x.2.1, .bool x.2.2] 177 (0, 0)) ∧ a' = { tmps := #[.slice a la ca, .slice b lb cb, .func (.func 135) #[] #[], undef, undef, .pointer (some ⟨w.heap.size, 0, none⟩), .slice none 0 0, .pointer (some ⟨w.heap.size + 1, 0, none⟩), .int .u32 x.1, .pointer (some ⟨Bx, 0, none⟩), .slice a la ca, .slice b lb cb, .func (.func 181) #[] #[.pointer (some ⟨w.heap.size + 1 + 1, 0, none⟩), .pointer (some ⟨w.heap.size + 1 + 1 + 1, 0, none⟩)], .int .u32 x.1, .agg #[.bool x.2.1, .bool x.2.2], undef, undef, undef, undef, undef, undef, undef, undef], defers := [] })
    ?hAx ?assign ?body ?done ?stop
  case hAx =>
    rintro x a' s X Y row ⟨Bx, h1, h2, h3⟩ hg hrow
    refine ⟨Bx, h1, (hg.block Bx (Array.getElem?_eq_some_iff.1 h2).1 fun e => ?_).trans h2, h3⟩
    obtain ⟨_, o, ho, hc⟩ := hrow Bx e.symm
    rw [h2] at ho; cases ho; cases hc
  case assign =>
    rintro l pre x W K ⟨⟨v, hv, hrow, _⟩, ⟨⟨bF, bA⟩, bB⟩, hB⟩ hK
    have hsW : w.heap.size + 4 ≤ W.heap.size := by
      have := bB.lt
      omega
    gi_wp2
    refine hK _ _ ((KeepsOthers.alloc _ _).from _) (kp2_below kp2_r hB.size (bel1 W _)) ⟨⟨v, hv.alloc _, hrow.alloc _, trivial⟩, ⟨⟨bF.alloc _, bA.alloc _⟩, bB.alloc _⟩, hB.alloc hB.size _⟩ ⟨W.heap.size, by omega, Go.Deep.blk_alloc_new _ _, rfl⟩
  case body =>
    rintro l pre x a' W hl ⟨r, hr⟩ ⟨⟨v, hv, hrow, _⟩, ⟨⟨bF, bA⟩, bB⟩, hB⟩ ⟨Bx, hBx, bX, rfl⟩ hlt
    obtain ⟨z, p, q⟩ := x
    obtain ⟨k0, k1, _, _, _⟩ := two_cells bX undef undef
    have hlen := stays_len (fun p q => p && !q) pre
    have hsW : w.heap.size + 4 ≤ W.heap.size := by
      have := bB.lt
      omega
    have hFc := bF.cell
    have hv' := hv.alloc (.cells #[.bool p, .bool q] 177)
    have hrow' := hrow.alloc (.cells #[.bool p, .bool q] 177)
    have hLc := hv'.cell
    have HV := Lib.hid hv
    have HV' := Lib.hid hv'
    have HR := Lib.hid hrow
    have HR' := Lib.hid hrow'
    have BF := Lib.hid bF
    have BA := Lib.hid bA
    have BB := Lib.hid bB
    have HB := Lib.hid hB
    clear hv hv' hrow hrow' bF bA bB hB bX
    dsimp only
    cases p <;> cases q
    · gi_wp2_with (refine ⟨trivial, ?_⟩; gi_at_call 135; refine (CallsIn.inRound l (callsIn_wide.2 (stM _ _ _))).mono ?_; rintro e w' ⟨rfl, rfl⟩)
      refine ⟨(KeepsOthers.alloc _ _).from _, kp2_below kp2_r HB.out.size (bel1 W _), ⟨_, HV'.out, ?_, trivial⟩, ⟨⟨BF.out.alloc _, BA.out.alloc _⟩, BB.out.alloc _⟩, HB.out.alloc HB.out.size _⟩
      rw [stays_no rfl]
      exact HR'.out
    · gi_wp2_with (refine ⟨trivial, ?_⟩; gi_at_call 135; refine (CallsIn.inRound l (callsIn_wide.2 (stM _ _ _))).mono ?_; rintro e w' ⟨rfl, rfl⟩)
      refine ⟨(KeepsOthers.alloc _ _).from _, kp2_below kp2_r HB.out.size (bel1 W _), ⟨_, HV'.out, ?_, trivial⟩, ⟨⟨BF.out.alloc _, BA.out.alloc _⟩, BB.out.alloc _⟩, HB.out.alloc HB.out.size _⟩
      rw [stays_no rfl]
      exact HR'.out
    · have hn1 := news_new (W.alloc (.cells #[.bool true, .bool false] 177)) [.int .u32 z] 25
      rw [World.size_alloc] at hn1
      have HN1 := Lib.hid hn1
      clear hn1
      gi_wp2_with (first | (refine ⟨trivial, ?_⟩; gi_at_call 135; refine (CallsIn.inRound l (callsIn_wide.2 (stM _ _ _))).mono ?_; rintro e w' ⟨rfl, rfl⟩) | (gi_at_builtin; refine wpListIn_append_own _ rfl _ _ 29 rfl w.heap.size 25 i0 (.int .u32 0) 1 4 Tryz.underlying29 hi hz0 hz1 hz2 rfl (by decide) _ _ _ rfl (HR'.out.alloc _) ⟨W.heap.size + 1, 0, none⟩ 1 1 [.int .u32 z] rfl rfl HN1.out (one32 z) (by unfold maxLen; omega) (by omega) (by simp; omega) ?_; intro v' w1 hown' hgrow _; obtain ⟨g', cap', rfl⟩ := ownsRow_succ hown'; obtain ⟨hv1, hv2, hr2, hk2, hb2⟩ := HV'.out.appended (by decide) HR'.out (by simp; omega) (by omega) hown' hgrow; have hc1 := hv1.cell; have hf1 := hv1.frozen))
      have F3 := Boxed.thru (BF.out.alloc _) (by decide) HR'.out hgrow (B' := w.heap.size + 1) (by omega) (v' := .slice (some ⟨g', 0, none⟩) ((stays (fun p q => p && !q) pre).length + 1) cap')
      have A3 := Boxed.thru (BA.out.alloc _) (by decide) HR'.out hgrow (B' := w.heap.size + 1) (by omega) (v' := .slice (some ⟨g', 0, none⟩) ((stays (fun p q => p && !q) pre).length + 1) cap')
      have B3 := Boxed.thru (BB.out.alloc _) (by decide) HR'.out hgrow (B' := w.heap.size + 1) (by omega) (v' := .slice (some ⟨g', 0, none⟩) ((stays (fun p q => p && !q) pre).length + 1) cap')
      have hbel := ((Below.refl w.heap.size W).alloc (o := .cells #[.bool true, .bool false] 177) HB.out.size).trans hb2
      refine ⟨((KeepsOthers.alloc _ _).trans hk2).from _, ⟨hbel, fun u e => ?_, fun u e => ?_⟩, ⟨_, hv2, ?_, trivial⟩, ⟨⟨F3, A3⟩, B3⟩, HB.out.trans hbel⟩
      · rw [BA.out.cell] at e; rw [A3.cell]; exact e
      · rw [BB.out.cell] at e; rw [B3.cell]; exact e
      · rw [stays_yes rfl, va_snoc, List.length_append]
        exact hr2
    · gi_wp2_with (refine ⟨trivial, ?_⟩; gi_at_call 135; refine (CallsIn.inRound l (callsIn_wide.2 (stM _ _ _))).mono ?_; rintro e w' ⟨rfl, rfl⟩)
      refine ⟨(KeepsOthers.alloc _ _).from _, kp2_below kp2_r HB.out.size (bel1 W _), ⟨_, HV'.out, ?_, trivial⟩, ⟨⟨BF.out.alloc _, BA.out.alloc _⟩, BB.out.alloc _⟩, HB.out.alloc HB.out.size _⟩
      rw [stays_no rfl]
      exact HR'.out
  case done =>
    rintro D zs W hD rfl ⟨⟨v, hv, hrow, _⟩, _, hB⟩ hK
    have hLc := hv.cell
    have HV := Lib.hid hv
    have HR := Lib.hid hrow
    have HB := Lib.hid hB
    clear hv hrow hB
    gi_wp2
    refine ⟨by simp, .inl ⟨_, _, rfl, run_takeDeferred hK, ?_⟩⟩
    exact ⟨_, results_tmp rfl _ _ _, v, rfl, ownsRow_putObj HR.out _ hK rfl, HB.out.trans (belowK_b (w := w) (Nat.le_refl _) W D _ _ (by omega) hK rfl rfl)⟩
  case stop =>
    rintro D c pre W _ _ h _
    exact h.elim

theorem thr_sub (a b : List Int) : ∀ t ∈ thr a b, t.1 ∈ a ∨ t.1 ∈ b := by
  refine thr_ind (P := fun a b => ∀ t ∈ thr a b, t.1 ∈ a ∨ t.1 ∈ b) ?_ ?_ ?_ ?_ ?_ ?_ a b
  · rw [thr_nil]; simp
  · intro x a h t ht
    rw [thr_l] at ht
    rcases List.mem_cons.1 ht with rfl | ht
    · simp
    · rcases h t ht with h | h
      · exact .inl (List.mem_cons_of_mem _ h)
      · exact .inr h
  · intro y b h t ht
    rw [thr_r] at ht
    rcases List.mem_cons.1 ht with rfl | ht
    · simp
    · rcases h t ht with h | h
      · exact .inl h
      · exact .inr (List.mem_cons_of_mem _ h)
  · intro x y a b hxy h t ht
    rw [thr_lt hxy] at ht
    rcases List.mem_cons.1 ht with rfl | ht
    · simp
    · rcases h t ht with h | h
      · exact .inl (List.mem_cons_of_mem _ h)
      · exact .inr h
  · intro x y a b hxy h t ht
    rw [thr_gt hxy] at ht
    rcases List.mem_cons.1 ht with rfl | ht
    · simp
    · rcases h t ht with h | h
      · exact .inl h
      · exact .inr (List.mem_cons_of_mem _ h)
  · intro x a b h t ht
    rw [thr_eq] at ht
    rcases List.mem_cons.1 ht with rfl | ht
    · simp
    · exact (h t ht).imp (List.mem_cons_of_mem _) (List.mem_cons_of_mem _)
theorem isA_iff {l : List Int} : IsA l ↔ ∀ x ∈ l, 0 ≤ x ∧ x ≤ 4294967295 := by
  constructor
  · intro h x hx
    obtain ⟨i, hi, rfl⟩ := List.getElem_of_mem hx
    have := h i hi
    simpa [List.getD_eq_getElem?_getD, hi] using this
  · intro h i hi
    have := h l[i] (List.getElem_mem hi)
    simpa [List.getD_eq_getElem?_getD, hi] using this
theorem those_isA {p : Bool → Bool → Bool} {a b : List Int} (ha : IsA a) (hb : IsA b) : IsA (those p a b) := by
  rw [isA_iff] at ha hb ⊢
  intro x hx
  unfold those at hx
  obtain ⟨t, ht, rfl⟩ := List.mem_map.1 hx
  rcases thr_sub a b t (List.mem_filter.1 ht).1 with h | h
  · exact ha _ h
  · exact hb _ h
/-- What a row of the call's own hands back. -/
def Flat (a : Option Addr) (n c : Nat) : Prop := (a = none ∧ n = 0 ∧ c = 0) ∨ ∃ b off, a = some ⟨b, off, none⟩
def Out (w : World) (e : Ending) (w' : World) (zs : List Int) : Prop := (∃ a c, e = .returned (.slice a zs.length c) ∧ As w' a zs ∧ Flat a zs.length c) ∧ Below w.heap.size w w'
theorem out_of {w w' : World} {v : Value} {zs : List Int} (h : w'.ownsRow w.heap.size 25 1 v zs.length (va zs)) (hA : IsA zs) (hb : Below w.heap.size w w') : Out w (.returned v) w' zs := by
  refine ⟨?_, hb⟩
  rcases h.2 with ⟨rfl, h0⟩ | ⟨g, cap, cur, rfl, hB, _⟩
  · exact ⟨none, 0, by rw [h0], by rw [List.eq_nil_of_length_eq_zero h0]; exact As.nil _ _, .inl ⟨rfl, h0, rfl⟩⟩
  · exact ⟨_, cap, rfl, (AsO.of rfl h).as hA, .inr ⟨_, _, rfl⟩⟩
theorem sInter (a b : Option Addr) (la lb ca cb : Nat) (xs ys : List Int) (w : World) (hx : xs.length = la) (hy : ys.length = lb) (hla : la ≤ 400000) (hlb : lb ≤ 400000) (h1 : As w a xs) (h2 : As w b ys) :
    Calls Tryz.prog 117 #[.slice a la ca, .slice b lb cb] w fun e w' => Out w e w' (int xs ys) := by
  have H : ∀ w', Below w.heap.size w w' → Calls Tryz.prog 134 #[.slice a la ca, .slice b lb cb, .func (.func 137) #[] #[]] w' fun e w2 => Out w' e w2 (int xs ys) := fun w' hb =>
    ((callsIn_wide (n := 5)).1 (thoseI_in a b la lb ca cb xs ys w' hx hy hla hlb (h1.below hb) (h2.below hb))).mono fun e w2 ⟨v, e1, e2, e3⟩ => by subst e1; exact out_of e2 (those_isA h1.2 h2.2) e3
  have HH := Lib.hid H
  clear H h1 h2
  go_enter Tryz.func117, Tryz.ntmps117
  go_wp2_with (go_at_call 134; refine (HH.out _ (Below.refl _ _)).mono ?_; rintro e w2 ⟨⟨a', c', rfl, hA, hnil⟩, hB⟩; have HA := Lib.hid hA; have HB := Lib.hid hB; have HN := Lib.hid hnil; clear hA hB hnil)
  go_ret
  exact ⟨⟨a', c', rfl, HA.out, HN.out⟩, HB.out⟩
theorem sMinus (a b : Option Addr) (la lb ca cb : Nat) (xs ys : List Int) (w : World) (hx : xs.length = la) (hy : ys.length = lb) (hla : la ≤ 400000) (hlb : lb ≤ 400000) (h1 : As w a xs) (h2 : As w b ys) :
    Calls Tryz.prog 114 #[.slice a la ca, .slice b lb cb] w fun e w' => Out w e w' (dif xs ys) := by
  have H : ∀ w', Below w.heap.size w w' → Calls Tryz.prog 134 #[.slice a la ca, .slice b lb cb, .func (.func 135) #[] #[]] w' fun e w2 => Out w' e w2 (dif xs ys) := fun w' hb =>
    ((callsIn_wide (n := 5)).1 (thoseM_in a b la lb ca cb xs ys w' hx hy hla hlb (h1.below hb) (h2.below hb))).mono fun e w2 ⟨v, e1, e2, e3⟩ => by subst e1; exact out_of e2 (those_isA h1.2 h2.2) e3
  have HH := Lib.hid H
  clear H h1 h2
  go_enter Tryz.func114, Tryz.ntmps114
  go_wp2_with (go_at_call 134; refine (HH.out _ (Below.refl _ _)).mono ?_; rintro e w2 ⟨⟨a', c', rfl, hA, hnil⟩, hB⟩; have HA := Lib.hid hA; have HB := Lib.hid hB; have HN := Lib.hid hnil; clear hA hB hnil)
  go_ret
  exact ⟨⟨a', c', rfl, HA.out, HN.out⟩, HB.out⟩
end Go.Proofs.YtiabbkjmgaemaaaGreat
/- Whether a number is in a row; whether a row rises; whether two rows are the same (package set's, and the document's). -/
namespace Go.Proofs.YtiabbkjmgaemaaaGreat
set_option linter.unusedVariables false
open Go.RowKit

instance (l : List Int) : Decidable (Inc l) := inferInstanceAs (Decidable (List.Pairwise (· < ·) l))
theorem As.at {w : World} {a : Option Addr} {xs : List Int} (h : As w a xs) {k : Nat} (hk : k < xs.length) : ∃ b off, a = some ⟨b, off, none⟩ ∧ ∀ k, k < xs.length → w.cell? ⟨b, off + k, none⟩ = some (.int .u32 (xs.getD k 0)) := by
  rcases h.1 with e | h
  · rw [e] at hk; simp at hk
  · exact h
theorem mem_at {xs : List Int} {k : Nat} (hk : k < xs.length) : xs.getD k 0 ∈ xs := by
  rw [List.getD_eq_getElem?_getD, List.getElem?_eq_getElem hk]
  exact List.getElem_mem hk
theorem not_mem {xs : List Int} {x : Int} (h : ∀ j, j < xs.length → xs.getD j 0 ≠ x) : x ∉ xs := by
  intro hx
  obtain ⟨i, hi, e⟩ := List.getElem_of_mem hx
  have := h i hi
  rw [List.getD_eq_getElem?_getD, List.getElem?_eq_getElem hi] at this
  exact this e

set_option maxHeartbeats 1000000 in
theorem lIndex (a : Option Addr) (n c : Nat) (xs : List Int) (x : Int) (w : World) (hx : xs.length = n) (hm : n ≤ 1000000000) (h : As w a xs) :
    Calls Tryz.prog 163 #[.slice a n c, .int .u32 x] w fun e w' => (∃ r : Int, e = .returned (.int .i64 r) ∧ (decide (0 ≤ r) = decide (x ∈ xs))) ∧ w' = w := by
  have HX := Lib.hid hx
  have H := Lib.hid h
  clear hx h
  go_enter Tryz.func163, Tryz.ntmps163
  go_wp2
  go_loopw [8] (fun v wr => ∃ k : Nat, v = .int .i64 (k : Int) ∧ k ≤ n ∧ (∀ j, j < k → xs.getD j 0 ≠ x) ∧ wr = w) (fun v _ => n - (intOf v).toNat)
  case atStart => exact ⟨0, rfl, by omega, fun j hj => absurd hj (by omega), rfl⟩
  case round =>
    obtain ⟨k, rfl, hk, hno, rfl⟩ := hrel
    have HNO := Lib.hid hno
    clear hno
    by_cases hlt : k < n
    · obtain ⟨b, off, rfl, hc⟩ := H.out.at (k := k) (by rw [HX.out]; exact hlt)
      have c1 := hc k (by rw [HX.out]; exact hlt)
      have hkz : (k : Int) < (n : Int) := by omega
      clear hc
      by_cases he : x = xs.getD k 0
      · have hb : ((x : Int) == xs.getD k 0) = true := by simp [he]
        have HE := Lib.hid he
        clear he
        generalize hxv : xs.getD k 0 = y at *
        have HXV := Lib.hid hxv
        clear hxv
        go_wp2
        go_ret
        refine ⟨⟨k, rfl, ?_⟩, rfl⟩
        rw [decide_eq_true (by omega), decide_eq_true]
        rw [HE.out, ← HXV.out]
        exact mem_at (by rw [HX.out]; exact hlt)
      · have hb : ((x : Int) == xs.getD k 0) = false := by simpa using he
        have HE := Lib.hid he
        clear he
        generalize hxv : xs.getD k 0 = y at *
        have HXV := Lib.hid hxv
        clear hxv
        go_wp2
        go_roundw
        case rel =>
          refine ⟨k + 1, by go_num, by omega, fun j hj => ?_, by first | rfl | trivial⟩
          rcases Nat.lt_succ_iff_lt_or_eq.1 hj with hj | rfl
          · exact HNO.out j hj
          · rw [HXV.out]; exact fun e => HE.out e.symm
        case measure => simp [intOf]; omega
    · have hkn : k = n := by omega
      have HK := Lib.hid hkn
      clear hkn
      go_wp2
      go_ret
      refine ⟨⟨-1, rfl, ?_⟩, rfl⟩
      rw [decide_eq_false (by omega), decide_eq_false]
      exact not_mem fun j hj => HNO.out j (by rw [HK.out, ← HX.out]; exact hj)

theorem lContains (a : Option Addr) (n c : Nat) (xs : List Int) (x : Int) (w : World) (hx : xs.length = n) (hm : n ≤ 1000000000) (h : As w a xs) :
    Calls Tryz.prog 151 #[.slice a n c, .int .u32 x] w fun e w' => e = .returned (.bool (decide (x ∈ xs))) ∧ w' = w := by
  have HX := Lib.hid hx
  have H := Lib.hid h
  clear hx h
  go_enter Tryz.func151, Tryz.ntmps151
  go_wp2_with (go_at_call 163; refine (lIndex a n c xs x _ HX.out hm H.out).mono ?_; rintro e w' ⟨⟨r, rfl, hr⟩, rfl⟩; have HR := Lib.hid hr; clear hr)
  go_ret
  exact ⟨ret_bool HR.out, rfl⟩
theorem sHas (a : Option Addr) (n c : Nat) (xs : List Int) (x : Int) (w : World) (hx : xs.length = n) (hm : n ≤ 1000000000) (h : As w a xs) :
    Calls Tryz.prog 128 #[.slice a n c, .int .u32 x] w fun e w' => e = .returned (.bool (decide (x ∈ xs))) ∧ w' = w := by
  have HX := Lib.hid hx
  have H := Lib.hid h
  clear hx h
  go_enter Tryz.func128, Tryz.ntmps128
  go_wp2_with (go_at_call 151; refine (lContains a n c xs x _ HX.out hm H.out).mono ?_; rintro e w' ⟨rfl, rfl⟩)
  go_ret
  exact ⟨rfl, rfl⟩
set_option maxHeartbeats 1000000 in
theorem rHas (a : Option Addr) (n c : Nat) (xs : List Int) (x : Int) (w : World) (hx : xs.length = n) (hm : n ≤ 1000000000) (h : As w a xs) :
    Calls Tryz.prog 84 #[.slice a n c, .int .u32 x] w fun e w' => e = .returned (.bool (decide (x ∈ xs))) ∧ w' = w := by
  have HX := Lib.hid hx
  have H := Lib.hid h
  clear hx h
  go_enter Tryz.func84, Tryz.ntmps84
  go_wp2
  go_loopw [5] (fun v wr => ∃ k : Nat, v = .int .i64 (k : Int) ∧ k ≤ n ∧ (∀ j, j < k → xs.getD j 0 ≠ x) ∧ wr = w) (fun v _ => n - (intOf v).toNat)
  case atStart => exact ⟨0, rfl, by omega, fun j hj => absurd hj (by omega), rfl⟩
  case round =>
    obtain ⟨k, rfl, hk, hno, rfl⟩ := hrel
    have HNO := Lib.hid hno
    clear hno
    by_cases hlt : k < n
    · obtain ⟨b, off, rfl, hc⟩ := H.out.at (k := k) (by rw [HX.out]; exact hlt)
      have c1 := hc k (by rw [HX.out]; exact hlt)
      have hkz : (k : Int) < (n : Int) := by omega
      clear hc
      by_cases he : xs.getD k 0 = x
      · have hb : (xs.getD k 0 == (x : Int)) = true := by simpa using he
        have HE := Lib.hid he
        clear he
        generalize hxv : xs.getD k 0 = y at *
        have HXV := Lib.hid hxv
        clear hxv
        go_wp2
        go_ret
        refine ⟨ret_bool ?_, rfl⟩
        symm
        rw [decide_eq_true_eq]
        rw [← HE.out, ← HXV.out]
        exact mem_at (by rw [HX.out]; exact hlt)
      · have hb : (xs.getD k 0 == (x : Int)) = false := by simpa using he
        have HE := Lib.hid he
        clear he
        generalize hxv : xs.getD k 0 = y at *
        have HXV := Lib.hid hxv
        clear hxv
        go_wp2
        go_roundw
        case rel =>
          refine ⟨k + 1, by go_num, by omega, fun j hj => ?_, by first | rfl | trivial⟩
          rcases Nat.lt_succ_iff_lt_or_eq.1 hj with hj | rfl
          · exact HNO.out j hj
          · rw [HXV.out]; exact HE.out
        case measure => simp [intOf]; omega
    · have hkn : k = n := by omega
      have HK := Lib.hid hkn
      clear hkn
      go_wp2
      go_ret
      refine ⟨ret_bool ?_, rfl⟩
      symm
      rw [decide_eq_false_iff_not]
      exact not_mem fun j hj => HNO.out j (by rw [HK.out, ← HX.out]; exact hj)

/-- Rising, by neighbours. -/
theorem inc_adj : ∀ {l : List Int}, Inc l ↔ ∀ k, k + 1 < l.length → l.getD k 0 < l.getD (k + 1) 0
  | [] => by simp [inc_nil]
  | [x] => by simp [inc_cons, inc_nil]
  | x :: y :: l => by
    rw [inc_cons, inc_adj (l := y :: l)]
    constructor
    · rintro ⟨h1, h2⟩ k hk
      cases k with
      | zero => exact h1 y (List.mem_cons_self ..)
      | succ k =>
        have := h2 k (by simp at hk ⊢; omega)
        simpa using this
    · intro h
      have h2 : ∀ k, k + 1 < (y :: l).length → (y :: l).getD k 0 < (y :: l).getD (k + 1) 0 := fun k hk => by
        have := h (k + 1) (by simp at hk ⊢; omega)
        simpa using this
      refine ⟨fun z hz => ?_, h2⟩
      have hxy : x < y := by have := h 0 (by simp); simpa using this
      have hi := inc_adj.2 h2
      rw [inc_cons] at hi
      rcases List.mem_cons.1 hz with rfl | hz
      · exact hxy
      · have := hi.1 z hz; omega

def PreI (xs : List Int) (k : Nat) : Prop := ∀ j, j < k → xs.getD j 0 < xs.getD (j + 1) 0
theorem preI_step {xs : List Int} {k : Nat} (h : PreI xs k) (e : xs.getD k 0 < xs.getD (k + 1) 0) : PreI xs (k + 1) := by
  intro j hj
  rcases Nat.lt_succ_iff_lt_or_eq.1 hj with hj | rfl
  · exact h j hj
  · exact e
end Go.Proofs.YtiabbkjmgaemaaaGreat
/- Whether a row rises (package set's, and the document's). -/
namespace Go.Proofs.YtiabbkjmgaemaaaGreat
set_option linter.unusedVariables false
open Go.RowKit

set_option maxHeartbeats 1000000 in
theorem sRight (a : Option Addr) (n c : Nat) (xs : List Int) (w : World) (hx : xs.length = n) (hm : n ≤ 1000000000) (h : As w a xs) :
    Calls Tryz.prog 124 #[.slice a n c] w fun e w' => e = .returned (.bool (decide (Inc xs))) ∧ Below w.heap.size w w' := by
  have HX := Lib.hid hx
  have H := Lib.hid h
  clear hx h
  have YES : Hid (∀ k, n ≤ k + 1 → PreI xs k → decide (Inc xs) = true) := Lib.hid (fun k hk hp => by
    rw [decide_eq_true_eq, inc_adj]
    intro j hj
    exact hp j (by rw [HX.out] at hj; omega))
  have NO : Hid (∀ k, k + 1 < n → ¬ xs.getD k 0 < xs.getD (k + 1) 0 → decide (Inc xs) = false) := Lib.hid (fun k hk hp => by
    rw [decide_eq_false_iff_not, inc_adj]
    intro hh
    exact hp (hh k (by rw [HX.out]; exact hk)))
  go_enter Tryz.func124, Tryz.ntmps124
  go_wp2
  go_loopw [7] (fun v wr => ∃ k q : Nat, v = .int .i64 ((k : Int)) ∧ (k = 0 ∨ k + 1 ≤ n) ∧ PreI xs k ∧ wr = w.drewN q) (fun v _ => n + 1 - (intOf v).toNat)
  case atStart => exact ⟨0, 0, rfl, .inl rfl, fun j hj => absurd hj (by omega), by first | rfl | trivial⟩
  case round =>
    obtain ⟨k, q, rfl, hk, hp, rfl⟩ := hrel
    have HP := Lib.hid hp
    clear hp
    by_cases hlt : k + 1 < n
    · obtain ⟨b, off, rfl, hc⟩ := H.out.at (k := k) (by rw [HX.out]; omega)
      have c1 : ∀ q, (w.drewN q).cell? ⟨b, off + k, none⟩ = some (.int .u32 (xs.getD k 0)) := fun q => hc k (by rw [HX.out]; omega)
      have c2 : ∀ q, (w.drewN q).cell? ⟨b, off + (k + 1), none⟩ = some (.int .u32 (xs.getD (k + 1) 0)) := fun q => hc (k + 1) (by rw [HX.out]; omega)
      have i0 : (0 : Int) ≤ (k : Int) := by omega
      have i1 : (k : Int) < (n : Int) := by omega
      have i2 : (k : Int) + 1 < (n : Int) := by omega
      have i3 : (k : Int) < (n : Int) - 1 := by omega
      clear hc
      generalize hxv : xs.getD k 0 = x at *
      generalize hyv : xs.getD (k + 1) 0 = y at *
      have HXV := Lib.hid hxv
      have HYV := Lib.hid hyv
      clear hxv hyv
      by_cases hxy : x < y
      · have hd : decide (y ≤ x) = false := decide_eq_false (by omega)
        go_wp2
        go_quiet (fail)
        go_wp2
        go_roundw
        case rel => exact ⟨k + 1, _, by go_num, .inr (by omega), preI_step HP.out (by rw [HXV.out, HYV.out]; exact hxy), rfl⟩
        case measure => simp [intOf]; omega
      · have hd : decide (y ≤ x) = true := decide_eq_true (by omega)
        go_wp2
        go_quiet (fail)
        go_wp2
        go_ret
        exact ⟨ret_bool (NO.out k hlt (by rw [HXV.out, HYV.out]; exact hxy)).symm, bdrawn (bdrawn (Below.refl _ _) _) _⟩
    · have i3 : ¬ ((k : Int) < (n : Int) - 1) := by omega
      have i4 : ¬ ((k : Int) + 1 < (n : Int)) := by omega
      go_wp2
      go_ret
      exact ⟨ret_bool (YES.out k (by omega) HP.out).symm, bdrawn (Below.refl _ _) _⟩
end Go.Proofs.YtiabbkjmgaemaaaGreat
/- Package set's Make: the set of a row. -/
namespace Go.Proofs.YtiabbkjmgaemaaaGreat
set_option linter.unusedVariables false
open Go.RowKit
open Go.Sort (PermIn)

/-- A number put into a set. -/
def insS (x : Int) : List Int → List Int
  | [] => [x]
  | y :: l => if x < y then x :: y :: l else if y < x then y :: insS x l else y :: l
theorem insS_mem (x z : Int) : ∀ l, z ∈ insS x l ↔ z = x ∨ z ∈ l
  | [] => by simp [insS]
  | y :: l => by
    rw [insS]
    split
    · simp
    · split
      · rw [List.mem_cons, insS_mem x z l, List.mem_cons]
        constructor
        · rintro (h | h | h)
          · exact .inr (.inl h)
          · exact .inl h
          · exact .inr (.inr h)
        · rintro (h | h | h)
          · exact .inr (.inl h)
          · exact .inl h
          · exact .inr (.inr h)
      · have e : x = y := by omega
        subst e; simp
theorem insS_inc (x : Int) : ∀ {l}, Inc l → Inc (insS x l)
  | [], _ => by simp [insS, inc_cons, inc_nil]
  | y :: l, h => by
    rw [inc_cons] at h
    rw [insS]
    split
    · rw [inc_cons, inc_cons]
      refine ⟨fun z hz => ?_, h⟩
      rcases List.mem_cons.1 hz with e | hz
      · omega
      · have := h.1 z hz; omega
    · split
      · rw [inc_cons]
        refine ⟨fun z hz => ?_, insS_inc x h.2⟩
        rcases (insS_mem x z l).1 hz with e | hz
        · omega
        · exact h.1 z hz
      · rw [inc_cons]; exact h
theorem insS_len (x : Int) : ∀ l : List Int, (insS x l).length ≤ l.length + 1
  | [] => by simp [insS]
  | y :: l => by
    rw [insS]
    split
    · simp
    · split
      · have := insS_len x l; simp; omega
      · simp
/-- The set of a row. -/
def mk : List Int → List Int
  | [] => []
  | x :: l => insS x (mk l)
theorem mk_inc : ∀ l, Inc (mk l)
  | [] => inc_nil
  | x :: l => insS_inc x (mk_inc l)
theorem mk_mem (z : Int) : ∀ l, z ∈ mk l ↔ z ∈ l
  | [] => Iff.rfl
  | x :: l => by rw [mk, insS_mem, mk_mem z l, List.mem_cons]
theorem mk_len : ∀ l : List Int, (mk l).length ≤ l.length
  | [] => Nat.le_refl _
  | x :: l => by
    have := insS_len x (mk l)
    have := mk_len l
    rw [mk]; simp; omega
theorem mk_of {l : List Int} (h : Inc l) : mk l = l := inc_ext (mk_inc l) h fun x => mk_mem x l
theorem mk_isA {l : List Int} (h : IsA l) : IsA (mk l) := by
  rw [isA_iff] at h ⊢
  exact fun x hx => h x ((mk_mem x l).1 hx)

/-- What stays of a row that rises, once each. -/
theorem compact_inc (d : Array Int) : ∀ m, Srt 0 m d → Inc (Lib.compactUpTo d m) ∧ (∀ x, x ∈ Lib.compactUpTo d m ↔ ∃ j, j < m ∧ d[j]! = x) ∧ ∀ x ∈ Lib.compactUpTo d m, 0 < m ∧ x ≤ d[m - 1]!
  | 0, _ => by simp [Lib.compactUpTo, inc_nil]
  | m + 1, h => by
    obtain ⟨h1, h2, h3⟩ := compact_inc d m (fun i j a b c => h i j a b (by omega))
    rw [Lib.compactUpTo_succ]
    by_cases hk : Lib.keeps d m = true
    · rw [if_pos hk]
      have hlt : ∀ x ∈ Lib.compactUpTo d m, x < d[m]! := fun x hx => by
        obtain ⟨hm, hle⟩ := h3 x hx
        have hne : d[m]! ≠ d[m - 1]! := fun e => by
          rw [Lib.keeps_neg hm e] at hk; cases hk
        have := h (m - 1) m (by omega) (by omega) (by omega)
        omega
      refine ⟨?_, fun x => ?_, fun x hx => ⟨by omega, ?_⟩⟩
      · unfold Inc
        rw [List.pairwise_append]
        exact ⟨h1, by simp, fun x hx y hy => by rw [List.mem_singleton] at hy; subst hy; exact hlt x hx⟩
      · rw [List.mem_append, h2, List.mem_singleton]
        constructor
        · rintro (⟨j, hj, e⟩ | e)
          · exact ⟨j, by omega, e⟩
          · exact ⟨m, by omega, e.symm⟩
        · rintro ⟨j, hj, e⟩
          by_cases hjm : j = m
          · subst hjm; exact .inr e.symm
          · exact .inl ⟨j, by omega, e⟩
      · rw [Nat.add_sub_cancel]
        rcases List.mem_append.1 hx with hx | hx
        · have := hlt x hx; omega
        · rw [List.mem_singleton] at hx; omega
    · have hm : 0 < m := by
        rcases Nat.eq_zero_or_pos m with rfl | hm
        · exact absurd (Lib.keeps_lt_one d 0 (by omega)) hk
        · exact hm
      have he : d[m]! = d[m - 1]! := Classical.byContradiction fun e => hk (Lib.keeps_pos e)
      rw [if_neg hk, List.append_nil]
      refine ⟨h1, fun x => ?_, fun x hx => ⟨by omega, by rw [Nat.add_sub_cancel, he]; exact (h3 x hx).2⟩⟩
      rw [h2]
      constructor
      · rintro ⟨j, hj, e⟩; exact ⟨j, by omega, e⟩
      · rintro ⟨j, hj, e⟩
        by_cases hjm : j = m
        · subst hjm; exact ⟨j - 1, by omega, by rw [← he]; exact e⟩
        · exact ⟨j, by omega, e⟩
theorem compact_mk {xs : List Int} {d' : Array Int} (hp : PermIn 0 xs.length xs.toArray d') (hs : Srt 0 xs.length d') : Lib.compactUpTo d' xs.length = mk xs := by
  obtain ⟨h1, h2, _⟩ := compact_inc d' xs.length hs
  refine inc_ext h1 (mk_inc xs) fun x => ?_
  rw [h2, mk_mem]
  have hsz : d'.size = xs.length := by rw [hp.1]; simp
  have hperm := hp.2.2
  have e1 : (xs.toArray.extract 0 xs.length).toList = xs := by simp
  have e2 : (d'.extract 0 xs.length).toList = d'.toList := by rw [← hsz]; simp
  rw [e1, e2] at hperm
  rw [← hperm.mem_iff]
  constructor
  · rintro ⟨j, hj, e⟩
    rw [← e, getElem!_pos d' j (by omega)]
    exact Array.getElem_mem_toList (by omega)
  · intro hx
    obtain ⟨i, hi, e⟩ := List.getElem_of_mem hx
    have hi' : i < d'.size := by simpa using hi
    exact ⟨i, by omega, by rw [getElem!_pos d' i hi', ← e]; simp⟩

theorem but1_put (enc : Int → Value) (w : World) (q g off : Nat) (d : Array Int) : But1 g w (Go.Sort.putRow enc (Go.Sort.ahead w q) g off d) :=
  ⟨rfl, rfl, rfl, by simp, fun k hk hne => by
    simp only [Go.Sort.putRow, Go.Sort.mapBlock, Array.getElem?_modify, Go.Sort.heap_ahead, if_neg (Ne.symm hne)]⟩
theorem Arr.holds {w : World} {g off : Nat} {d : Array Int} (h : Arr w g off d) : Go.Sort.Holds (Value.int .u32) w g off d := fun j hj => ⟨h.cell hj, h.frozen _⟩

theorem lCompact (g off cap : Nat) (d : Array Int) (w : World) (h : Arr w g off d) (hsz : d.size ≤ 1000000) (hcap : d.size ≤ cap) (hA : ∀ x ∈ Lib.compactUpTo d d.size, 0 ≤ x ∧ x ≤ 4294967295) :
    Calls Tryz.prog 83 #[.slice (some ⟨g, off, none⟩) d.size cap] w fun e w' => e = .returned (.slice (some ⟨g, off, none⟩) (Lib.compactUpTo d d.size).length cap) ∧ As w' (some ⟨g, off, none⟩) (Lib.compactUpTo d d.size) ∧ But1 g w w' := by
  refine Calls.mono (AnyE.slices_Compact Tryz.layC (Value.int .u32) (fun _ => rfl) (EqlAt.intD _ _ .u32) (NeqAt.intD _ _ .u32) 0 Tryz.zeroValue25 g off cap d w h.holds (by omega) hcap) ?_
  rintro e w' ⟨rfl, q, rfl⟩
  refine ⟨rfl, ⟨.inr ⟨g, off, rfl, fun k hk => ?_⟩, ?_⟩, but1_put _ _ _ _ _ _⟩
  · have hl : (Lib.compactUpTo d d.size).length ≤ d.size := by
      unfold Lib.compactUpTo
      rw [List.length_map]
      exact Nat.le_trans (List.length_filter_le _ _) (by simp)
    have := Go.Sort.cell?_putRow (Value.int .u32) (Go.Sort.ahead w q) g off d (Lib.compactUpTo d d.size ++ List.replicate (d.size - (Lib.compactUpTo d d.size).length) 0).toArray (Go.Sort.holds_ahead _ _ _ _ _ _ h.holds) (by simp; omega) k (by simp; omega)
    rw [this]
    congr 2
    rw [getElem!_pos _ k (by simp; omega)]
    simp [List.getElem_append_left hk, List.getD_eq_getElem?_getD, hk]
  · exact isA_iff.2 hA
theorem lCompact0 (a : Option Addr) (cap : Nat) (w : World) : Calls Tryz.prog 83 #[.slice a 0 cap] w fun e w' => e = .returned (.slice a 0 cap) ∧ w' = w := by
  go_enter Tryz.func83, Tryz.ntmps83
  go_wp2
  go_ret
  exact ⟨rfl, rfl⟩
end Go.Proofs.YtiabbkjmgaemaaaGreat
