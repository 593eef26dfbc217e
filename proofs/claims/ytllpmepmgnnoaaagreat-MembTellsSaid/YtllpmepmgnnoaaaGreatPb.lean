/- Package set's iterator: two rows gone through at once. -/
import Derived.Test.YtllpmepmgnnoaaaGreatPa
import Derived.Test.YtllpmepmgnnoaaaGreatNa
import Derived.Test.YtllpmepmgnnoaaaGreatRk
import Derived.RangeFuncNested
import Derived.RangeFuncBound
import Derived.RangeFuncCalls
import Derived.RangeFuncLeaves
import Derived.RangeFuncBox
import Derived.Shelf.Abstract
import Derived.Shelf.RegionOpen
import Derived.WalkKit
import Derived.OwnWalkIn
import Derived.TacticsInMore
import Derived.LoopNIn
import Derived.LoopIn
namespace Go.Proofs.YtllpmepmgnnoaaaGreat
set_option linter.unusedVariables false
open Go.RowKit Go.Shelf
attribute [local go_sem] Oper.semAt_some

abbrev Z3 := Int × Bool × Bool
/-- What a round keeps: what lay below n₀, and the boxes of the two rows. -/
def Kp2 (n₀ Ba Bb : Nat) (W W' : World) : Prop := Below n₀ W W' ∧ (∀ v, W.cell? ⟨Ba, 0, none⟩ = some v → W'.cell? ⟨Ba, 0, none⟩ = some v) ∧ ∀ v, W.cell? ⟨Bb, 0, none⟩ = some v → W'.cell? ⟨Bb, 0, none⟩ = some v
theorem kp2_r {n₀ Ba Bb : Nat} {A : World} : Kp2 n₀ Ba Bb A A := ⟨Below.refl _ _, fun _ h => h, fun _ h => h⟩
theorem kp2_t {n₀ Ba Bb : Nat} {A B C : World} (h : Kp2 n₀ Ba Bb A B) (k : Kp2 n₀ Ba Bb B C) : Kp2 n₀ Ba Bb A C := ⟨h.1.trans k.1, fun v e => k.2.1 v (h.2.1 v e), fun v e => k.2.2 v (h.2.2 v e)⟩
theorem kp2_b {n₀ Ba Bb : Nat} {w : World} (hn : n₀ ≤ w.heap.size) (W : World) (l : Nat) (o o' : Obj) (hl : w.heap.size ≤ l) (h : W.heap[l]? = some o) (hc : o.isCells = false) (hw : o.isWalk = false) : Kp2 n₀ Ba Bb W (W.putObj l o') :=
  ⟨belowK_b hn W l o o' hl h hc hw, fun v e => cell_kept e (grownBy_putObj' W l o') (fun r e' => by cases e'; exact ⟨o, h, hc⟩), fun v e => cell_kept e (grownBy_putObj' W l o') (fun r e' => by cases e'; exact ⟨o, h, hc⟩)⟩
theorem kp2_below {n₀ Ba Bb : Nat} {A B C : World} (h : Kp2 n₀ Ba Bb A B) (hn : n₀ ≤ B.heap.size) (hb : Below B.heap.size B C) : Kp2 n₀ Ba Bb A C :=
  kp2_t h ⟨hb.mono hn, fun v e => (hb.cell (p := ⟨Ba, 0, none⟩) (cell_lt e)).trans e, fun v e => (hb.cell (p := ⟨Bb, 0, none⟩) (cell_lt e)).trans e⟩
theorem grown_of_below {A B : World} (h : Below A.heap.size A B) : A.grownBy B none := ⟨h.os, h.tape, h.output, h.size, fun k hk _ => h.block k hk⟩
theorem drop_cons {l : List Int} {i : Nat} (h : i < l.length) : l.drop i = l.getD i 0 :: l.drop (i + 1) := by
  rw [List.drop_eq_getElem_cons h, List.getD_eq_getElem?_getD, List.getElem?_eq_getElem h]; rfl
theorem drop_end {l : List Int} {i : Nat} (h : l.length ≤ i) : l.drop i = [] := List.drop_eq_nil_of_le h
theorem ev {a : Act} {t : Nat} {v : Value} (h : a.eval (.tmp t) = v) : a.tmps[t]?.getD undef = v := by simpa [Act.eval] using h
/-- What is known behind operation i of the region that tells in which rows a number is. -/
def tV (N : Nat) (vals : Nat → Value) (p q : Bool) : Nat → Value → List Value → World → Prop
  | 43, v, _, w => ∃ B, v = .pointer (some ⟨B, 0, none⟩) ∧ N ≤ B ∧ ∃ c : Array Value, w.heap[B]? = some (.cells c 97 (0, 0)) ∧ c.size = 2
  | 44, _, us, w => ∃ B u, us = [.pointer (some ⟨B, 0, none⟩), u] ∧ N ≤ B ∧ w.heap[B]? = some (.cells #[.bool p, .bool q] 97 (0, 0))
  | i, v, _, _ => v = vals i
def tR (N j : Nat) (w w' : World) : Prop := (j = 44 ∨ Below w.heap.size w w') ∧ ∀ B (c : Array Value), N ≤ B → w.heap[B]? = some (.cells c 97 (0, 0)) → c.size = 2 → ∃ c' : Array Value, w'.heap[B]? = some (.cells c' 97 (0, 0)) ∧ c'.size = 2
theorem tR_r (N j : Nat) (w : World) : tR N j w w := ⟨.inr (Below.refl _ _), fun B c _ h1 h2 => ⟨c, h1, h2⟩⟩
theorem tV_stable {N : Nat} {vals : Nat → Value} {p q : Bool} {i j : Nat} {v : Value} {us : List Value} {w w' : World} (hij : i ≠ j) (hr : tR N j w w') (hv : tV N vals p q i v us w) : tV N vals p q i v us w' := by
  unfold tV at hv ⊢
  split at hv
  · obtain ⟨B, e, hB, c, h1, h2⟩ := hv
    obtain ⟨c', h3, h4⟩ := hr.2 B c hB h1 h2
    exact ⟨B, e, hB, c', h3, h4⟩
  · obtain ⟨B, u, e, hB, h1⟩ := hv
    refine ⟨B, u, e, hB, ?_⟩
    rcases hr.1 with e2 | hb
    · exact absurd e2.symm hij
    · rw [hb.block B (Array.getElem?_eq_some_iff.1 h1).1]; exact h1
  · exact hv
theorem two_cells {w : World} {B : Nat} {c0 c1 : Value} (h : w.heap[B]? = some (.cells #[c0, c1] 97 (0, 0))) (u v : Value) :
    w.cell? ⟨B, 0, none⟩ = some c0 ∧ w.cell? ⟨B, 1, none⟩ = some c1 ∧ w.frozen? ⟨B, 0, none⟩ = false ∧ w.frozen? ⟨B, 1, none⟩ = false ∧ ((w.setCell ⟨B, 0, none⟩ u).setCell ⟨B, 1, none⟩ v).heap[B]? = some (.cells #[u, v] 97 (0, 0)) := by
  simp [World.cell?, World.frozen?, World.setCell, Array.getElem?_modify, h]
def tD : Nat → List Nat
  | 2 => [1] | 3 => [0, 2] | 4 => [3] | 5 => [4] | 6 => [4] | 7 => [6, 4] | 8 => [5, 7, 4] | 9 => [8, 4] | 10 => [9] | 11 => [9] | 12 => [10, 11, 9] | 13 => [12, 9] | 14 => [9] | 15 => [9] | 16 => [14, 15, 9] | 17 => [16, 9] | 18 => [13, 17, 9] | 19 => [9, 18, 4] | 20 => [4, 19]
  | 23 => [22] | 24 => [21, 23] | 25 => [24] | 26 => [25] | 27 => [25] | 28 => [27, 25] | 29 => [26, 28, 25] | 30 => [29, 25] | 31 => [30] | 32 => [30] | 33 => [31, 32, 30] | 34 => [33, 30] | 35 => [30] | 36 => [30] | 37 => [35, 36, 30] | 38 => [37, 30] | 39 => [34, 38, 30] | 40 => [30, 39, 25] | 41 => [25, 40]
  | 42 => [20, 41] | 44 => [43, 42] | _ => []
def tG : List (Option (Nat × Bool)) := [none, none, none, none, none, some (4, false), some (4, false), some (4, false), some (4, false), some (4, false), some (9, true), some (9, true), some (9, true), some (9, true), some (9, true), some (9, true), some (9, true), some (9, true), some (9, true), some (4, false), none, none, none, none, none, none, some (25, false), some (25, false), some (25, false), some (25, false), some (25, false), some (30, true), some (30, true), some (30, true), some (30, true), some (30, true), some (30, true), some (30, true), some (30, true), some (30, true), some (25, false), none, none, none, none]
theorem guard_some {ops : Array Oper} (hg : ops.toList.map (·.guard) = tG) {i : Nat} {o : Oper} (ho : ops[i]? = some o) (h : ((tG[i]?).bind id).isSome = true) : ∃ g b, o.guard = some (g, b) := by
  rw [← hg, List.getElem?_map, Array.getElem?_toList, ho] at h
  simp at h
  obtain ⟨⟨g, b⟩, e⟩ := Option.isSome_iff_exists.1 h
  exact ⟨g, b, e⟩
theorem tG_cases : ∀ o ∈ tG, o = none ∨ o = some (4, false) ∨ o = some (9, true) ∨ o = some (25, false) ∨ o = some (30, true) := by decide
theorem guard_of {ops : Array Oper} (hg : ops.toList.map (·.guard) = tG) {i : Nat} {o : Oper} {gb : Nat × Bool} (ho : ops[i]? = some o) (h : o.guard = some gb) : tG[i]? = some (some gb) := by
  rw [← hg, List.getElem?_map, Array.getElem?_toList, ho]
  simp [h]

def valX (i j la lb ca cb ga oa gb ob : Nat) (x y : Int) : Nat → Value
  | 0 => .int .i64 (j : Nat)
  | 1 => .slice (some ⟨gb, ob, none⟩) lb cb
  | 2 => .int .i64 (lb : Nat)
  | 3 => .bool false
  | 4 => .bool false
  | 5 => .int .i64 (i : Nat)
  | 6 => .slice (some ⟨ga, oa, none⟩) la ca
  | 7 => .int .i64 (la : Nat)
  | 8 => .bool true
  | 9 => .bool true
  | 10 => .slice (some ⟨ga, oa, none⟩) la ca
  | 11 => .int .i64 (i : Nat)
  | 12 => .pointer (some ⟨ga, oa + i, none⟩)
  | 13 => .int .u32 x
  | 14 => .slice (some ⟨gb, ob, none⟩) lb cb
  | 15 => .int .i64 (j : Nat)
  | 16 => .pointer (some ⟨gb, ob + j, none⟩)
  | 17 => .int .u32 y
  | 18 => .bool (decide (x ≤ y))
  | 19 => .bool (decide (x ≤ y))
  | 20 => .bool (decide (x ≤ y))
  | 21 => .int .i64 (i : Nat)
  | 22 => .slice (some ⟨ga, oa, none⟩) la ca
  | 23 => .int .i64 (la : Nat)
  | 24 => .bool false
  | 25 => .bool false
  | 26 => .int .i64 (j : Nat)
  | 27 => .slice (some ⟨gb, ob, none⟩) lb cb
  | 28 => .int .i64 (lb : Nat)
  | 29 => .bool true
  | 30 => .bool true
  | 31 => .slice (some ⟨gb, ob, none⟩) lb cb
  | 32 => .int .i64 (j : Nat)
  | 33 => .pointer (some ⟨gb, ob + j, none⟩)
  | 34 => .int .u32 y
  | 35 => .slice (some ⟨ga, oa, none⟩) la ca
  | 36 => .int .i64 (i : Nat)
  | 37 => .pointer (some ⟨ga, oa + i, none⟩)
  | 38 => .int .u32 x
  | 39 => .bool (decide (y ≤ x))
  | 40 => .bool (decide (y ≤ x))
  | 41 => .bool (decide (y ≤ x))
  | 42 => .agg #[.bool (decide (x ≤ y)), .bool (decide (y ≤ x))]
  | _ => undef
def runX (i : Nat) : Bool := !([] : List Nat).contains i
def valY (i j la lb ca cb ga oa : Nat) (b : Option Addr) : Nat → Value
  | 0 => .int .i64 (j : Nat)
  | 1 => .slice b lb cb
  | 2 => .int .i64 (lb : Nat)
  | 3 => .bool true
  | 4 => .bool true
  | 20 => .bool true
  | 21 => .int .i64 (i : Nat)
  | 22 => .slice (some ⟨ga, oa, none⟩) la ca
  | 23 => .int .i64 (la : Nat)
  | 24 => .bool false
  | 25 => .bool false
  | 26 => .int .i64 (j : Nat)
  | 27 => .slice b lb cb
  | 28 => .int .i64 (lb : Nat)
  | 29 => .bool false
  | 30 => .bool false
  | 40 => .bool false
  | 41 => .bool false
  | 42 => .agg #[.bool true, .bool false]
  | _ => undef
def runY (i : Nat) : Bool := !([5, 6, 7, 8, 9, 10, 11, 12, 13, 14, 15, 16, 17, 18, 19, 31, 32, 33, 34, 35, 36, 37, 38, 39] : List Nat).contains i
def valZ (i j la lb ca cb gb ob : Nat) (a : Option Addr) : Nat → Value
  | 0 => .int .i64 (j : Nat)
  | 1 => .slice (some ⟨gb, ob, none⟩) lb cb
  | 2 => .int .i64 (lb : Nat)
  | 3 => .bool false
  | 4 => .bool false
  | 5 => .int .i64 (i : Nat)
  | 6 => .slice a la ca
  | 7 => .int .i64 (la : Nat)
  | 8 => .bool false
  | 9 => .bool false
  | 19 => .bool false
  | 20 => .bool false
  | 21 => .int .i64 (i : Nat)
  | 22 => .slice a la ca
  | 23 => .int .i64 (la : Nat)
  | 24 => .bool true
  | 25 => .bool true
  | 41 => .bool true
  | 42 => .agg #[.bool false, .bool true]
  | _ => undef
def runZ (i : Nat) : Bool := !([10, 11, 12, 13, 14, 15, 16, 17, 18, 26, 27, 28, 29, 30, 31, 32, 33, 34, 35, 36, 37, 38, 39, 40] : List Nat).contains i
set_option maxRecDepth 100000 in
set_option maxHeartbeats 4000000 in
theorem thr1_in (n : Nat) (hn : 1 ≤ n) (l Ba Bb n₀ la lb ca cb : Nat) (a b : Option Addr) (xs ys : List Int) (hx : xs.length = la) (hy : ys.length = lb) (hla : la ≤ 1000000) (hlb : lb ≤ 1000000)
    (J Jx : List Z3 → World → Prop) (W : World) (hJ : AbidesFrom W.heap.size J) (hW : n₀ ≤ W.heap.size)
    (hY : ∀ pre x W, J pre W → pre.length < (thr xs ys).length → YieldAt Fence.wide (n - 1) Tryz.prog l #[.int .u32 x.1, .agg #[.bool x.2.1, .bool x.2.2]] W fun e W' =>
      (e = .returned (.bool true) ∧ J (pre ++ [x]) W' ∧ Kp2 n₀ Ba Bb W W') ∨ (e = .returned (.bool false) ∧ Jx (pre ++ [x]) W'))
    (hA : W.cell? ⟨Ba, 0, none⟩ = some (.slice a la ca)) (hB : W.cell? ⟨Bb, 0, none⟩ = some (.slice b lb cb))
    (hxs : xs = [] ∨ ∃ g off, a = some ⟨g, off, none⟩ ∧ g < n₀ ∧ ∀ k, k < la → W.cell? ⟨g, off + k, none⟩ = some (.int .u32 (xs.getD k 0)))
    (hys : ys = [] ∨ ∃ g off, b = some ⟨g, off, none⟩ ∧ g < n₀ ∧ ∀ k, k < lb → W.cell? ⟨g, off + k, none⟩ = some (.int .u32 (ys.getD k 0))) (h0 : J [] W) :
    CallsIn Fence.wide n Tryz.prog 120 #[.func (.yield l) #[] #[], .pointer (some ⟨Ba, 0, none⟩), .pointer (some ⟨Bb, 0, none⟩)] W fun e W' => (∃ v, e = .returned v) ∧
      ((∃ zs, zs = thr xs ys ∧ J zs W') ∨ (∃ pre, True ∧ Jx pre W')) := by
  have HX := Lib.hid hx
  have HY := Lib.hid hy
  have HA := Lib.hid hA
  have HB := Lib.hid hB
  have HXS := Lib.hid hxs
  have HYS := Lib.hid hys
  have HJ := Lib.hid hJ
  clear hx hy hA hB hxs hys hJ
  refine callsIn_of_wp Tryz.func120 rfl trivial ?_ rfl
  simp only [Tryz.ntmps120, List.size_toArray, List.length_cons, List.length_nil, Nat.reduceAdd, Nat.reduceSub, Array.replicate_succ, Array.replicate_zero, List.push_toArray, List.append_toArray, List.nil_append, List.cons_append]
  gi_wp2
  gi_loopw [4, 5] (fun v4 v5 wr => ∃ (i j : Nat) (pre : List Z3), v4 = .int .i64 (i : Int) ∧ v5 = .int .i64 (j : Int) ∧ i ≤ la ∧ j ≤ lb ∧ pre ++ thr (xs.drop i) (ys.drop j) = thr xs ys ∧ J pre wr ∧ Kp2 n₀ Ba Bb W wr ∧ W.heap.size ≤ wr.heap.size)
    (fun v4 v5 _ => la + lb - (intOf v4).toNat - (intOf v5).toNat)
  case atStart => exact ⟨0, 0, [], rfl, rfl, by omega, by omega, by simp, h0, kp2_r, Nat.le_refl _⟩
  case round =>
    obtain ⟨i, j, pre, rfl, rfl, hi, hj, hpre, hJs, hk, hsz⟩ := hrel
    have HK := Lib.hid hk
    have HP := Lib.hid hpre
    have HJS := Lib.hid hJs
    have bA : wr.cell? ⟨Ba, 0, none⟩ = some (.slice a la ca) := hk.2.1 _ HA.out
    have bB : wr.cell? ⟨Bb, 0, none⟩ = some (.slice b lb cb) := hk.2.2 _ HB.out
    clear hk hpre hJs
    by_cases hil : i < la
    · rcases HXS.out with e | ⟨ga, oa, rfl, hga, hca⟩
      · have := HX.out; rw [e] at this; simp at this; omega
      · have cx : wr.cell? ⟨ga, oa + i, none⟩ = some (.int .u32 (xs.getD i 0)) := (HK.out.1.cell (p := ⟨ga, oa + i, none⟩) hga).trans (hca i hil)
        have hiz : (i : Int) < (la : Int) := by omega
        have hine : ((i : Int) == (la : Int)) = false := by simp; omega
        clear hca
        by_cases hjl : j < lb
        · rcases HYS.out with e | ⟨gb, ob, rfl, hgb, hcb⟩
          · have := HY.out; rw [e] at this; simp at this; omega
          · have cy : wr.cell? ⟨gb, ob + j, none⟩ = some (.int .u32 (ys.getD j 0)) := (HK.out.1.cell (p := ⟨gb, ob + j, none⟩) hgb).trans (hcb j hjl)
            clear hcb
            have hjne : ((j : Int) == (lb : Int)) = false := by simp; omega
            have hjz : (j : Int) < (lb : Int) := by omega
            generalize hxv : xs.getD i 0 = x at *
            generalize hyv : ys.getD j 0 = y at *
            have HXV := Lib.hid hxv
            have HYV := Lib.hid hyv
            clear hxv hyv
            gi_wp2
            refine wpIn_wide.2 ?_
            refine wp_region_each4 (tV wr.heap.size (valX i j la lb ca cb ga oa gb ob x y) (decide (x ≤ y)) (decide (y ≤ x))) (fun w2 => Below wr.heap.size wr w2) (tR wr.heap.size) tD runX [18, 19, 20, 21, 22, 23, 24, 25, 26, 27, 28, 29, 30, 31, 32, 33, 34, 35, 36, 37, 38, 39, 40, 41, 42, 43, 44, 45, 46, 47, 48, 49, 50, 51, 52, 53, 54, 55, 56, 57, 58, 59, 60, 6] (by kernel_rfl) (by kernel_rfl) (by kernel_rfl) (Below.refl _ wr).drew
              (fun i j oi oj v us A B hoi hoj hij hw hSA hr hv => tV_stable hij hr hv) ?hgd ?hng ?hsk
              ⟨?_, ?_, ?_, ?_, ?_, ?_, ?_, ?_, ?_, ?_, ?_, ?_, ?_, ?_, ?_, ?_, ?_, ?_, ?_, ?_, ?_, ?_, ?_, ?_, ?_, ?_, ?_, ?_, ?_, ?_, ?_, ?_, ?_, ?_, ?_, ?_, ?_, ?_, ?_, ?_, ?_, ?_, ?_, ?_, ?_, trivial⟩ ?hend
            case hgd =>
              intro i o g b ho hg v us w2 hv
              have h1 := guard_of (by kernel_rfl) ho hg
              have hi : i ∈ List.range 45 := List.mem_range.2 (by
                have h3 := (List.getElem?_eq_some_iff.1 h1).1
                have h4 : tG.length = 45 := by kernel_rfl
                omega)
              rcases tG_cases _ (List.mem_of_getElem? h1) with e | e | e | e | e
              · cases e
              · cases e
                have hr := (by decide : ∀ i ∈ List.range 45, tG[i]? = some (some (4, false)) → runX i = true) i hi h1
                have hv' : v = (.bool false : Value) := hv
                rw [hr, if_pos rfl, hv']
              · cases e
                have hr := (by decide : ∀ i ∈ List.range 45, tG[i]? = some (some (9, true)) → runX i = true) i hi h1
                have hv' : v = (.bool true : Value) := hv
                rw [hr, if_pos rfl, hv']
              · cases e
                have hr := (by decide : ∀ i ∈ List.range 45, tG[i]? = some (some (25, false)) → runX i = true) i hi h1
                have hv' : v = (.bool false : Value) := hv
                rw [hr, if_pos rfl, hv']
              · cases e
                have hr := (by decide : ∀ i ∈ List.range 45, tG[i]? = some (some (30, true)) → runX i = true) i hi h1
                have hv' : v = (.bool true : Value) := hv
                rw [hr, if_pos rfl, hv']
            case hng =>
              intro i o ho hr
              have hi : i ∈ List.range 45 := List.mem_range.2 (Array.getElem?_eq_some_iff.1 ho).1
              have h1 := (by decide : ∀ i ∈ List.range 45, runX i = false → ((tG[i]?).bind id).isSome = true) i hi hr
              exact guard_some (by kernel_rfl) ho h1
            case hsk =>
              intro i us w2 hr _
              cases hr
            case refine_1 =>
              intro _ ac w2 hS h0 hd
              have o5 : ac.tmps[5]?.getD undef = .int .i64 (j : Nat) := ev (h0 5 (by kernel_rfl))
              refine Does2.value (.int .i64 (j : Nat)) (w' := w2) ?_ ⟨rfl, hS, tR_r _ _ _⟩
              clear hS h0 hd
              go_simp
            case refine_2 =>
              intro _ ac w2 hS h0 hd
              have o2 : ac.tmps[2]?.getD undef = .pointer (some ⟨Bb, 0, none⟩) := ev (h0 2 (by kernel_rfl))
              have ck := (hS.cell (cell_lt bB)).trans bB
              refine Does2.value (.slice (some ⟨gb, ob, none⟩) lb cb) (w' := w2) ?_ ⟨rfl, hS, tR_r _ _ _⟩
              clear hS h0 hd
              go_simp
            case refine_3 =>
              intro _ ac w2 hS h0 hd
              have d1 : ac.tmps[19]?.getD undef = .slice (some ⟨gb, ob, none⟩) lb cb := ev (hd 1 List.mem_cons_self)
              refine Does2.value (.int .i64 (lb : Nat)) (w' := w2) ?_ ⟨rfl, hS, tR_r _ _ _⟩
              clear hS h0 hd
              go_simp
            case refine_4 =>
              intro _ ac w2 hS h0 hd
              have d0 : ac.tmps[18]?.getD undef = .int .i64 (j : Nat) := ev (hd 0 List.mem_cons_self)
              have d2 : ac.tmps[20]?.getD undef = .int .i64 (lb : Nat) := ev (hd 2 (List.mem_cons_of_mem _ List.mem_cons_self))
              refine Does2.value (.bool false) (w' := w2) ?_ ⟨rfl, hS, tR_r _ _ _⟩
              clear hS h0 hd
              go_simp
            case refine_5 =>
              intro _ ac w2 hS h0 hd
              have d3 : ac.tmps[21]?.getD undef = .bool false := ev (hd 3 List.mem_cons_self)
              refine Does2.value (.bool false) (w' := w2) ?_ ⟨rfl, hS, tR_r _ _ _⟩
              clear hS h0 hd
              go_simp
            case refine_6 =>
              intro _ ac w2 hS h0 hd
              have o4 : ac.tmps[4]?.getD undef = .int .i64 (i : Nat) := ev (h0 4 (by kernel_rfl))
              have d4 : ac.tmps[22]?.getD undef = .bool false := ev (hd 4 List.mem_cons_self)
              refine Does2.value (.int .i64 (i : Nat)) (w' := w2) ?_ ⟨rfl, hS, tR_r _ _ _⟩
              clear hS h0 hd
              go_simp
            case refine_7 =>
              intro _ ac w2 hS h0 hd
              have o1 : ac.tmps[1]?.getD undef = .pointer (some ⟨Ba, 0, none⟩) := ev (h0 1 (by kernel_rfl))
              have d4 : ac.tmps[22]?.getD undef = .bool false := ev (hd 4 List.mem_cons_self)
              have ck := (hS.cell (cell_lt bA)).trans bA
              refine Does2.value (.slice (some ⟨ga, oa, none⟩) la ca) (w' := w2) ?_ ⟨rfl, hS, tR_r _ _ _⟩
              clear hS h0 hd
              go_simp
            case refine_8 =>
              intro _ ac w2 hS h0 hd
              have d6 : ac.tmps[24]?.getD undef = .slice (some ⟨ga, oa, none⟩) la ca := ev (hd 6 List.mem_cons_self)
              have d4 : ac.tmps[22]?.getD undef = .bool false := ev (hd 4 (List.mem_cons_of_mem _ List.mem_cons_self))
              refine Does2.value (.int .i64 (la : Nat)) (w' := w2) ?_ ⟨rfl, hS, tR_r _ _ _⟩
              clear hS h0 hd
              go_simp
            case refine_9 =>
              intro _ ac w2 hS h0 hd
              have d5 : ac.tmps[23]?.getD undef = .int .i64 (i : Nat) := ev (hd 5 List.mem_cons_self)
              have d7 : ac.tmps[25]?.getD undef = .int .i64 (la : Nat) := ev (hd 7 (List.mem_cons_of_mem _ List.mem_cons_self))
              have d4 : ac.tmps[22]?.getD undef = .bool false := ev (hd 4 (List.mem_cons_of_mem _ (List.mem_cons_of_mem _ List.mem_cons_self)))
              refine Does2.value (.bool true) (w' := w2) ?_ ⟨rfl, hS, tR_r _ _ _⟩
              clear hS h0 hd
              go_simp
            case refine_10 =>
              intro _ ac w2 hS h0 hd
              have d8 : ac.tmps[26]?.getD undef = .bool true := ev (hd 8 List.mem_cons_self)
              have d4 : ac.tmps[22]?.getD undef = .bool false := ev (hd 4 (List.mem_cons_of_mem _ List.mem_cons_self))
              refine Does2.value (.bool true) (w' := w2) ?_ ⟨rfl, hS, tR_r _ _ _⟩
              clear hS h0 hd
              go_simp
            case refine_11 =>
              intro _ ac w2 hS h0 hd
              have o1 : ac.tmps[1]?.getD undef = .pointer (some ⟨Ba, 0, none⟩) := ev (h0 1 (by kernel_rfl))
              have d9 : ac.tmps[27]?.getD undef = .bool true := ev (hd 9 List.mem_cons_self)
              have ck := (hS.cell (cell_lt bA)).trans bA
              refine Does2.value (.slice (some ⟨ga, oa, none⟩) la ca) (w' := w2) ?_ ⟨rfl, hS, tR_r _ _ _⟩
              clear hS h0 hd
              go_simp
            case refine_12 =>
              intro _ ac w2 hS h0 hd
              have o4 : ac.tmps[4]?.getD undef = .int .i64 (i : Nat) := ev (h0 4 (by kernel_rfl))
              have d9 : ac.tmps[27]?.getD undef = .bool true := ev (hd 9 List.mem_cons_self)
              refine Does2.value (.int .i64 (i : Nat)) (w' := w2) ?_ ⟨rfl, hS, tR_r _ _ _⟩
              clear hS h0 hd
              go_simp
            case refine_13 =>
              intro _ ac w2 hS h0 hd
              have d10 : ac.tmps[28]?.getD undef = .slice (some ⟨ga, oa, none⟩) la ca := ev (hd 10 List.mem_cons_self)
              have d11 : ac.tmps[29]?.getD undef = .int .i64 (i : Nat) := ev (hd 11 (List.mem_cons_of_mem _ List.mem_cons_self))
              have d9 : ac.tmps[27]?.getD undef = .bool true := ev (hd 9 (List.mem_cons_of_mem _ (List.mem_cons_of_mem _ List.mem_cons_self)))
              refine Does2.value (.pointer (some ⟨ga, oa + i, none⟩)) (w' := w2) ?_ ⟨rfl, hS, tR_r _ _ _⟩
              clear hS h0 hd
              go_simp
            case refine_14 =>
              intro _ ac w2 hS h0 hd
              have d12 : ac.tmps[30]?.getD undef = .pointer (some ⟨ga, oa + i, none⟩) := ev (hd 12 List.mem_cons_self)
              have d9 : ac.tmps[27]?.getD undef = .bool true := ev (hd 9 (List.mem_cons_of_mem _ List.mem_cons_self))
              have ck := (hS.cell (cell_lt cx)).trans cx
              refine Does2.value (.int .u32 x) (w' := w2) ?_ ⟨rfl, hS, tR_r _ _ _⟩
              clear hS h0 hd
              go_simp
            case refine_15 =>
              intro _ ac w2 hS h0 hd
              have o2 : ac.tmps[2]?.getD undef = .pointer (some ⟨Bb, 0, none⟩) := ev (h0 2 (by kernel_rfl))
              have d9 : ac.tmps[27]?.getD undef = .bool true := ev (hd 9 List.mem_cons_self)
              have ck := (hS.cell (cell_lt bB)).trans bB
              refine Does2.value (.slice (some ⟨gb, ob, none⟩) lb cb) (w' := w2) ?_ ⟨rfl, hS, tR_r _ _ _⟩
              clear hS h0 hd
              go_simp
            case refine_16 =>
              intro _ ac w2 hS h0 hd
              have o5 : ac.tmps[5]?.getD undef = .int .i64 (j : Nat) := ev (h0 5 (by kernel_rfl))
              have d9 : ac.tmps[27]?.getD undef = .bool true := ev (hd 9 List.mem_cons_self)
              refine Does2.value (.int .i64 (j : Nat)) (w' := w2) ?_ ⟨rfl, hS, tR_r _ _ _⟩
              clear hS h0 hd
              go_simp
            case refine_17 =>
              intro _ ac w2 hS h0 hd
              have d14 : ac.tmps[32]?.getD undef = .slice (some ⟨gb, ob, none⟩) lb cb := ev (hd 14 List.mem_cons_self)
              have d15 : ac.tmps[33]?.getD undef = .int .i64 (j : Nat) := ev (hd 15 (List.mem_cons_of_mem _ List.mem_cons_self))
              have d9 : ac.tmps[27]?.getD undef = .bool true := ev (hd 9 (List.mem_cons_of_mem _ (List.mem_cons_of_mem _ List.mem_cons_self)))
              refine Does2.value (.pointer (some ⟨gb, ob + j, none⟩)) (w' := w2) ?_ ⟨rfl, hS, tR_r _ _ _⟩
              clear hS h0 hd
              go_simp
            case refine_18 =>
              intro _ ac w2 hS h0 hd
              have d16 : ac.tmps[34]?.getD undef = .pointer (some ⟨gb, ob + j, none⟩) := ev (hd 16 List.mem_cons_self)
              have d9 : ac.tmps[27]?.getD undef = .bool true := ev (hd 9 (List.mem_cons_of_mem _ List.mem_cons_self))
              have ck := (hS.cell (cell_lt cy)).trans cy
              refine Does2.value (.int .u32 y) (w' := w2) ?_ ⟨rfl, hS, tR_r _ _ _⟩
              clear hS h0 hd
              go_simp
            case refine_19 =>
              intro _ ac w2 hS h0 hd
              have d13 : ac.tmps[31]?.getD undef = .int .u32 x := ev (hd 13 List.mem_cons_self)
              have d17 : ac.tmps[35]?.getD undef = .int .u32 y := ev (hd 17 (List.mem_cons_of_mem _ List.mem_cons_self))
              have d9 : ac.tmps[27]?.getD undef = .bool true := ev (hd 9 (List.mem_cons_of_mem _ (List.mem_cons_of_mem _ List.mem_cons_self)))
              refine Does2.value (.bool (decide (x ≤ y))) (w' := w2) ?_ ⟨rfl, hS, tR_r _ _ _⟩
              clear hS h0 hd
              go_simp
            case refine_20 =>
              intro _ ac w2 hS h0 hd
              have d9 : ac.tmps[27]?.getD undef = .bool true := ev (hd 9 List.mem_cons_self)
              have d18 : ac.tmps[36]?.getD undef = .bool (decide (x ≤ y)) := ev (hd 18 (List.mem_cons_of_mem _ List.mem_cons_self))
              have d4 : ac.tmps[22]?.getD undef = .bool false := ev (hd 4 (List.mem_cons_of_mem _ (List.mem_cons_of_mem _ List.mem_cons_self)))
              refine Does2.value (.bool (decide (x ≤ y))) (w' := w2) ?_ ⟨rfl, hS, tR_r _ _ _⟩
              clear hS h0 hd
              go_simp
            case refine_21 =>
              intro _ ac w2 hS h0 hd
              have d4 : ac.tmps[22]?.getD undef = .bool false := ev (hd 4 List.mem_cons_self)
              have d19 : ac.tmps[37]?.getD undef = .bool (decide (x ≤ y)) := ev (hd 19 (List.mem_cons_of_mem _ List.mem_cons_self))
              refine Does2.value (.bool (decide (x ≤ y))) (w' := w2) ?_ ⟨rfl, hS, tR_r _ _ _⟩
              clear hS h0 hd
              go_simp
            case refine_22 =>
              intro _ ac w2 hS h0 hd
              have o4 : ac.tmps[4]?.getD undef = .int .i64 (i : Nat) := ev (h0 4 (by kernel_rfl))
              refine Does2.value (.int .i64 (i : Nat)) (w' := w2) ?_ ⟨rfl, hS, tR_r _ _ _⟩
              clear hS h0 hd
              go_simp
            case refine_23 =>
              intro _ ac w2 hS h0 hd
              have o1 : ac.tmps[1]?.getD undef = .pointer (some ⟨Ba, 0, none⟩) := ev (h0 1 (by kernel_rfl))
              have ck := (hS.cell (cell_lt bA)).trans bA
              refine Does2.value (.slice (some ⟨ga, oa, none⟩) la ca) (w' := w2) ?_ ⟨rfl, hS, tR_r _ _ _⟩
              clear hS h0 hd
              go_simp
            case refine_24 =>
              intro _ ac w2 hS h0 hd
              have d22 : ac.tmps[40]?.getD undef = .slice (some ⟨ga, oa, none⟩) la ca := ev (hd 22 List.mem_cons_self)
              refine Does2.value (.int .i64 (la : Nat)) (w' := w2) ?_ ⟨rfl, hS, tR_r _ _ _⟩
              clear hS h0 hd
              go_simp
            case refine_25 =>
              intro _ ac w2 hS h0 hd
              have d21 : ac.tmps[39]?.getD undef = .int .i64 (i : Nat) := ev (hd 21 List.mem_cons_self)
              have d23 : ac.tmps[41]?.getD undef = .int .i64 (la : Nat) := ev (hd 23 (List.mem_cons_of_mem _ List.mem_cons_self))
              refine Does2.value (.bool false) (w' := w2) ?_ ⟨rfl, hS, tR_r _ _ _⟩
              clear hS h0 hd
              go_simp
            case refine_26 =>
              intro _ ac w2 hS h0 hd
              have d24 : ac.tmps[42]?.getD undef = .bool false := ev (hd 24 List.mem_cons_self)
              refine Does2.value (.bool false) (w' := w2) ?_ ⟨rfl, hS, tR_r _ _ _⟩
              clear hS h0 hd
              go_simp
            case refine_27 =>
              intro _ ac w2 hS h0 hd
              have o5 : ac.tmps[5]?.getD undef = .int .i64 (j : Nat) := ev (h0 5 (by kernel_rfl))
              have d25 : ac.tmps[43]?.getD undef = .bool false := ev (hd 25 List.mem_cons_self)
              refine Does2.value (.int .i64 (j : Nat)) (w' := w2) ?_ ⟨rfl, hS, tR_r _ _ _⟩
              clear hS h0 hd
              go_simp
            case refine_28 =>
              intro _ ac w2 hS h0 hd
              have o2 : ac.tmps[2]?.getD undef = .pointer (some ⟨Bb, 0, none⟩) := ev (h0 2 (by kernel_rfl))
              have d25 : ac.tmps[43]?.getD undef = .bool false := ev (hd 25 List.mem_cons_self)
              have ck := (hS.cell (cell_lt bB)).trans bB
              refine Does2.value (.slice (some ⟨gb, ob, none⟩) lb cb) (w' := w2) ?_ ⟨rfl, hS, tR_r _ _ _⟩
              clear hS h0 hd
              go_simp
            case refine_29 =>
              intro _ ac w2 hS h0 hd
              have d27 : ac.tmps[45]?.getD undef = .slice (some ⟨gb, ob, none⟩) lb cb := ev (hd 27 List.mem_cons_self)
              have d25 : ac.tmps[43]?.getD undef = .bool false := ev (hd 25 (List.mem_cons_of_mem _ List.mem_cons_self))
              refine Does2.value (.int .i64 (lb : Nat)) (w' := w2) ?_ ⟨rfl, hS, tR_r _ _ _⟩
              clear hS h0 hd
              go_simp
            case refine_30 =>
              intro _ ac w2 hS h0 hd
              have d26 : ac.tmps[44]?.getD undef = .int .i64 (j : Nat) := ev (hd 26 List.mem_cons_self)
              have d28 : ac.tmps[46]?.getD undef = .int .i64 (lb : Nat) := ev (hd 28 (List.mem_cons_of_mem _ List.mem_cons_self))
              have d25 : ac.tmps[43]?.getD undef = .bool false := ev (hd 25 (List.mem_cons_of_mem _ (List.mem_cons_of_mem _ List.mem_cons_self)))
              refine Does2.value (.bool true) (w' := w2) ?_ ⟨rfl, hS, tR_r _ _ _⟩
              clear hS h0 hd
              go_simp
            case refine_31 =>
              intro _ ac w2 hS h0 hd
              have d29 : ac.tmps[47]?.getD undef = .bool true := ev (hd 29 List.mem_cons_self)
              have d25 : ac.tmps[43]?.getD undef = .bool false := ev (hd 25 (List.mem_cons_of_mem _ List.mem_cons_self))
              refine Does2.value (.bool true) (w' := w2) ?_ ⟨rfl, hS, tR_r _ _ _⟩
              clear hS h0 hd
              go_simp
            case refine_32 =>
              intro _ ac w2 hS h0 hd
              have o2 : ac.tmps[2]?.getD undef = .pointer (some ⟨Bb, 0, none⟩) := ev (h0 2 (by kernel_rfl))
              have d30 : ac.tmps[48]?.getD undef = .bool true := ev (hd 30 List.mem_cons_self)
              have ck := (hS.cell (cell_lt bB)).trans bB
              refine Does2.value (.slice (some ⟨gb, ob, none⟩) lb cb) (w' := w2) ?_ ⟨rfl, hS, tR_r _ _ _⟩
              clear hS h0 hd
              go_simp
            case refine_33 =>
              intro _ ac w2 hS h0 hd
              have o5 : ac.tmps[5]?.getD undef = .int .i64 (j : Nat) := ev (h0 5 (by kernel_rfl))
              have d30 : ac.tmps[48]?.getD undef = .bool true := ev (hd 30 List.mem_cons_self)
              refine Does2.value (.int .i64 (j : Nat)) (w' := w2) ?_ ⟨rfl, hS, tR_r _ _ _⟩
              clear hS h0 hd
              go_simp
            case refine_34 =>
              intro _ ac w2 hS h0 hd
              have d31 : ac.tmps[49]?.getD undef = .slice (some ⟨gb, ob, none⟩) lb cb := ev (hd 31 List.mem_cons_self)
              have d32 : ac.tmps[50]?.getD undef = .int .i64 (j : Nat) := ev (hd 32 (List.mem_cons_of_mem _ List.mem_cons_self))
              have d30 : ac.tmps[48]?.getD undef = .bool true := ev (hd 30 (List.mem_cons_of_mem _ (List.mem_cons_of_mem _ List.mem_cons_self)))
              refine Does2.value (.pointer (some ⟨gb, ob + j, none⟩)) (w' := w2) ?_ ⟨rfl, hS, tR_r _ _ _⟩
              clear hS h0 hd
              go_simp
            case refine_35 =>
              intro _ ac w2 hS h0 hd
              have d33 : ac.tmps[51]?.getD undef = .pointer (some ⟨gb, ob + j, none⟩) := ev (hd 33 List.mem_cons_self)
              have d30 : ac.tmps[48]?.getD undef = .bool true := ev (hd 30 (List.mem_cons_of_mem _ List.mem_cons_self))
              have ck := (hS.cell (cell_lt cy)).trans cy
              refine Does2.value (.int .u32 y) (w' := w2) ?_ ⟨rfl, hS, tR_r _ _ _⟩
              clear hS h0 hd
              go_simp
            case refine_36 =>
              intro _ ac w2 hS h0 hd
              have o1 : ac.tmps[1]?.getD undef = .pointer (some ⟨Ba, 0, none⟩) := ev (h0 1 (by kernel_rfl))
              have d30 : ac.tmps[48]?.getD undef = .bool true := ev (hd 30 List.mem_cons_self)
              have ck := (hS.cell (cell_lt bA)).trans bA
              refine Does2.value (.slice (some ⟨ga, oa, none⟩) la ca) (w' := w2) ?_ ⟨rfl, hS, tR_r _ _ _⟩
              clear hS h0 hd
              go_simp
            case refine_37 =>
              intro _ ac w2 hS h0 hd
              have o4 : ac.tmps[4]?.getD undef = .int .i64 (i : Nat) := ev (h0 4 (by kernel_rfl))
              have d30 : ac.tmps[48]?.getD undef = .bool true := ev (hd 30 List.mem_cons_self)
              refine Does2.value (.int .i64 (i : Nat)) (w' := w2) ?_ ⟨rfl, hS, tR_r _ _ _⟩
              clear hS h0 hd
              go_simp
            case refine_38 =>
              intro _ ac w2 hS h0 hd
              have d35 : ac.tmps[53]?.getD undef = .slice (some ⟨ga, oa, none⟩) la ca := ev (hd 35 List.mem_cons_self)
              have d36 : ac.tmps[54]?.getD undef = .int .i64 (i : Nat) := ev (hd 36 (List.mem_cons_of_mem _ List.mem_cons_self))
              have d30 : ac.tmps[48]?.getD undef = .bool true := ev (hd 30 (List.mem_cons_of_mem _ (List.mem_cons_of_mem _ List.mem_cons_self)))
              refine Does2.value (.pointer (some ⟨ga, oa + i, none⟩)) (w' := w2) ?_ ⟨rfl, hS, tR_r _ _ _⟩
              clear hS h0 hd
              go_simp
            case refine_39 =>
              intro _ ac w2 hS h0 hd
              have d37 : ac.tmps[55]?.getD undef = .pointer (some ⟨ga, oa + i, none⟩) := ev (hd 37 List.mem_cons_self)
              have d30 : ac.tmps[48]?.getD undef = .bool true := ev (hd 30 (List.mem_cons_of_mem _ List.mem_cons_self))
              have ck := (hS.cell (cell_lt cx)).trans cx
              refine Does2.value (.int .u32 x) (w' := w2) ?_ ⟨rfl, hS, tR_r _ _ _⟩
              clear hS h0 hd
              go_simp
            case refine_40 =>
              intro _ ac w2 hS h0 hd
              have d34 : ac.tmps[52]?.getD undef = .int .u32 y := ev (hd 34 List.mem_cons_self)
              have d38 : ac.tmps[56]?.getD undef = .int .u32 x := ev (hd 38 (List.mem_cons_of_mem _ List.mem_cons_self))
              have d30 : ac.tmps[48]?.getD undef = .bool true := ev (hd 30 (List.mem_cons_of_mem _ (List.mem_cons_of_mem _ List.mem_cons_self)))
              refine Does2.value (.bool (decide (y ≤ x))) (w' := w2) ?_ ⟨rfl, hS, tR_r _ _ _⟩
              clear hS h0 hd
              go_simp
            case refine_41 =>
              intro _ ac w2 hS h0 hd
              have d30 : ac.tmps[48]?.getD undef = .bool true := ev (hd 30 List.mem_cons_self)
              have d39 : ac.tmps[57]?.getD undef = .bool (decide (y ≤ x)) := ev (hd 39 (List.mem_cons_of_mem _ List.mem_cons_self))
              have d25 : ac.tmps[43]?.getD undef = .bool false := ev (hd 25 (List.mem_cons_of_mem _ (List.mem_cons_of_mem _ List.mem_cons_self)))
              refine Does2.value (.bool (decide (y ≤ x))) (w' := w2) ?_ ⟨rfl, hS, tR_r _ _ _⟩
              clear hS h0 hd
              go_simp
            case refine_42 =>
              intro _ ac w2 hS h0 hd
              have d25 : ac.tmps[43]?.getD undef = .bool false := ev (hd 25 List.mem_cons_self)
              have d40 : ac.tmps[58]?.getD undef = .bool (decide (y ≤ x)) := ev (hd 40 (List.mem_cons_of_mem _ List.mem_cons_self))
              refine Does2.value (.bool (decide (y ≤ x))) (w' := w2) ?_ ⟨rfl, hS, tR_r _ _ _⟩
              clear hS h0 hd
              go_simp
            case refine_43 =>
              intro _ ac w2 hS h0 hd
              have d20 : ac.tmps[38]?.getD undef = .bool (decide (x ≤ y)) := ev (hd 20 List.mem_cons_self)
              have d41 : ac.tmps[59]?.getD undef = .bool (decide (y ≤ x)) := ev (hd 41 (List.mem_cons_of_mem _ List.mem_cons_self))
              refine Does2.value (.agg #[.bool (decide (x ≤ y)), .bool (decide (y ≤ x))]) (w' := w2) ?_ ⟨rfl, hS, tR_r _ _ _⟩
              clear hS h0 hd
              go_simp
            case refine_44 =>
              intro _ ac w2 hS h0 hd
              refine Does2.value (.pointer (some ⟨w2.heap.size, 0, none⟩)) (w' := w2.alloc (.cells #[.bool false, .bool false] 97)) ?_ ⟨⟨w2.heap.size, rfl, hS.size, _, Go.Deep.blk_alloc_new _ _, rfl⟩, hS.alloc hS.size _, .inr ((Below.refl _ _).alloc (Nat.le_refl _) _), fun B c _ h1 h2 => ⟨c, by rw [((Below.refl w2.heap.size w2).alloc (Nat.le_refl _) _).block B (Array.getElem?_eq_some_iff.1 h1).1]; exact h1, h2⟩⟩
              clear hS h0 hd
              go_simp
            case refine_45 =>
              intro _ ac w2 hS h0 hd
              obtain ⟨B, eB, hB, cc, hc1, hc2⟩ := hd 43 List.mem_cons_self
              have eB' : ac.tmps[6]?.getD undef = .pointer (some ⟨B, 0, none⟩) := ev eB
              obtain ⟨c0, c1, rfl⟩ : ∃ c0 c1, cc = #[c0, c1] := by
                obtain ⟨l⟩ := cc
                match l, hc2 with
                | [x0, x1], _ => exact ⟨x0, x1, rfl⟩
              have d42 : ac.tmps[60]?.getD undef = .agg #[.bool (decide (x ≤ y)), .bool (decide (y ≤ x))] := ev (hd 42 (List.mem_cons_of_mem _ List.mem_cons_self))
              obtain ⟨k0, k1, f0, f1, hb2⟩ := two_cells hc1 (.bool (decide (x ≤ y))) (.bool (decide (y ≤ x)))
              refine Does2.skip (w' := (w2.setCell ⟨B, 0, none⟩ (.bool (decide (x ≤ y)))).setCell ⟨B, 1, none⟩ (.bool (decide (y ≤ x)))) ?_ ⟨⟨B, _, by simp [valAt, tD]; exact ⟨eB, rfl⟩, hB, hb2⟩, (hS.setCell (p := ⟨B, 0, none⟩) hB _).setCell (p := ⟨B, 1, none⟩) hB _, .inl rfl, fun B' c hB' h1 h2 => ?_⟩
              · clear hS h0 hd
                go_simp
              · by_cases e : B' = B
                · subst e; exact ⟨_, hb2, rfl⟩
                · refine ⟨c, ?_, h2⟩
                  rw [Below.heap_setCell _ ⟨B, 1, none⟩ _ B' e, Below.heap_setCell _ ⟨B, 0, none⟩ _ B' e]
                  exact h1
            case hend =>
              intro f w2 hS hV
              obtain ⟨B, e6, hBN, _⟩ := hV 43 (by decide)
              have e6 : f 6 = .pointer (some ⟨B, 0, none⟩) := e6
              obtain ⟨B2, u, eus, _, hbl⟩ := hV 44 (by decide)
              have eB : B2 = B := by
                have h1 : some (f 6) = some (.pointer (some ⟨B2, 0, none⟩)) := congrArg (fun l : List Value => l.head?) eus
                rw [e6] at h1; simp at h1; exact h1.symm
              subst eB
              obtain ⟨k0, k1, f0, f1, _⟩ := two_cells hbl undef undef
              have bA2 := (hS.cell (cell_lt bA)).trans bA
              have bB2 := (hS.cell (cell_lt bB)).trans bB
              have cx2 := (hS.cell (cell_lt cx)).trans cx
              have cy2 := (hS.cell (cell_lt cy)).trans cy
              have HK2 := Lib.hid (kp2_below HK.out (Nat.le_trans hW hsz) hS)
              have HJ2 := Lib.hid (HJ.out pre wr w2 none HJS.out (grown_of_below hS) (fun r e => by cases e))
              have hsz2 : W.heap.size ≤ w2.heap.size := Nat.le_trans hsz hS.size
              simp only [putAll, Act.put, List.setIfInBounds_toArray, List.set_cons_zero, List.set_cons_succ, e6]
              clear hS hV eus hbl e6

              rcases Int.lt_trichotomy x y with hxy | hxy | hxy
              · have c1 : decide (x ≤ y) = true := decide_eq_true (by omega)
                have c2 : decide (y ≤ x) = false := decide_eq_false (by omega)
                rw [c1] at k0
                rw [c2] at k1
                have hthr : thr (xs.drop i) (ys.drop j) = (x, true, false) :: thr (xs.drop (i + 1)) (ys.drop j) := by rw [drop_cons (l := xs) (i := i) (by rw [HX.out]; exact hil), drop_cons (l := ys) (i := j) (by rw [HY.out]; exact hjl), HXV.out, HYV.out, thr_lt hxy]
                have hlen : pre.length < (thr xs ys).length := by rw [← HP.out, hthr]; simp
                have HN : Hid ((pre ++ [(x, true, false)]) ++ thr (xs.drop (i + 1)) (ys.drop j) = thr xs ys) := Lib.hid (by rw [← HP.out, hthr]; simp)
                clear hthr
                obtain ⟨fn, tmps, assign, body, hy, hR⟩ := hY pre (x, true, false) w2 HJ2.out hlen
                dsimp only at hy
                gi_wp2
                refine hR.mono ?_
                rintro e W3 (⟨rfl, hJ3, hk3⟩ | ⟨rfl, hJx3⟩)
                · gi_wp2
                  go_roundw
                  case rel => exact ⟨(i + 1), j, _, by go_num, rfl, by omega, by omega, HN.out, hJ3, kp2_t HK2.out hk3, Nat.le_trans hsz2 hk3.1.size⟩
                  case measure => simp [intOf]; omega
                · gi_wp2
                  refine bodyPost_ret (results_none rfl _ _ _) rfl ?_
                  exact ⟨⟨_, rfl⟩, .inr ⟨_, trivial, hJx3⟩⟩
              · have c1 : decide (x ≤ y) = true := decide_eq_true (by omega)
                have c2 : decide (y ≤ x) = true := decide_eq_true (by omega)
                rw [c1] at k0
                rw [c2] at k1
                have hthr : thr (xs.drop i) (ys.drop j) = (y, true, true) :: thr (xs.drop (i + 1)) (ys.drop (j + 1)) := by rw [drop_cons (l := xs) (i := i) (by rw [HX.out]; exact hil), drop_cons (l := ys) (i := j) (by rw [HY.out]; exact hjl), HXV.out, HYV.out, hxy, thr_eq]
                have hlen : pre.length < (thr xs ys).length := by rw [← HP.out, hthr]; simp
                have HN : Hid ((pre ++ [(y, true, true)]) ++ thr (xs.drop (i + 1)) (ys.drop (j + 1)) = thr xs ys) := Lib.hid (by rw [← HP.out, hthr]; simp)
                clear hthr
                obtain ⟨fn, tmps, assign, body, hy, hR⟩ := hY pre (y, true, true) w2 HJ2.out hlen
                dsimp only at hy
                gi_wp2
                refine hR.mono ?_
                rintro e W3 (⟨rfl, hJ3, hk3⟩ | ⟨rfl, hJx3⟩)
                · gi_wp2
                  go_roundw
                  case rel => exact ⟨(i + 1), (j + 1), _, by go_num, by go_num, by omega, by omega, HN.out, hJ3, kp2_t HK2.out hk3, Nat.le_trans hsz2 hk3.1.size⟩
                  case measure => simp [intOf]; omega
                · gi_wp2
                  refine bodyPost_ret (results_none rfl _ _ _) rfl ?_
                  exact ⟨⟨_, rfl⟩, .inr ⟨_, trivial, hJx3⟩⟩
              · have c1 : decide (x ≤ y) = false := decide_eq_false (by omega)
                have c2 : decide (y ≤ x) = true := decide_eq_true (by omega)
                rw [c1] at k0
                rw [c2] at k1
                have hthr : thr (xs.drop i) (ys.drop j) = (y, false, true) :: thr (xs.drop i) (ys.drop (j + 1)) := by rw [drop_cons (l := xs) (i := i) (by rw [HX.out]; exact hil), drop_cons (l := ys) (i := j) (by rw [HY.out]; exact hjl), HXV.out, HYV.out, thr_gt hxy]
                have hlen : pre.length < (thr xs ys).length := by rw [← HP.out, hthr]; simp
                have HN : Hid ((pre ++ [(y, false, true)]) ++ thr (xs.drop i) (ys.drop (j + 1)) = thr xs ys) := Lib.hid (by rw [← HP.out, hthr]; simp)
                clear hthr
                obtain ⟨fn, tmps, assign, body, hy, hR⟩ := hY pre (y, false, true) w2 HJ2.out hlen
                dsimp only at hy
                gi_wp2
                refine hR.mono ?_
                rintro e W3 (⟨rfl, hJ3, hk3⟩ | ⟨rfl, hJx3⟩)
                · gi_wp2
                  go_roundw
                  case rel => exact ⟨i, (j + 1), _, rfl, by go_num, by omega, by omega, HN.out, hJ3, kp2_t HK2.out hk3, Nat.le_trans hsz2 hk3.1.size⟩
                  case measure => simp [intOf]; omega
                · gi_wp2
                  refine bodyPost_ret (results_none rfl _ _ _) rfl ?_
                  exact ⟨⟨_, rfl⟩, .inr ⟨_, trivial, hJx3⟩⟩
        · have hjne : ((j : Int) == (lb : Int)) = true := by simp; omega
          have hjz : ¬ ((j : Int) < (lb : Int)) := by omega
          generalize hxv : xs.getD i 0 = x at *
          have HXV := Lib.hid hxv
          clear hxv
          gi_wp2
          refine wpIn_wide.2 ?_
          refine wp_region_each4 (tV wr.heap.size (valY i j la lb ca cb ga oa b) true false) (fun w2 => Below wr.heap.size wr w2) (tR wr.heap.size) tD runY [18, 19, 20, 21, 22, 23, 24, 25, 26, 27, 28, 29, 30, 31, 32, 33, 34, 35, 36, 37, 38, 39, 40, 41, 42, 43, 44, 45, 46, 47, 48, 49, 50, 51, 52, 53, 54, 55, 56, 57, 58, 59, 60, 6] (by kernel_rfl) (by kernel_rfl) (by kernel_rfl) (Below.refl _ wr).drew
            (fun i j oi oj v us A B hoi hoj hij hw hSA hr hv => tV_stable hij hr hv) ?hgd ?hng ?hsk
            ⟨?_, ?_, ?_, ?_, ?_, ?_, ?_, ?_, ?_, ?_, ?_, ?_, ?_, ?_, ?_, ?_, ?_, ?_, ?_, ?_, ?_, ?_, ?_, ?_, ?_, ?_, ?_, ?_, ?_, ?_, ?_, ?_, ?_, ?_, ?_, ?_, ?_, ?_, ?_, ?_, ?_, ?_, ?_, ?_, ?_, trivial⟩ ?hend
          case hgd =>
            intro i o g b ho hg v us w2 hv
            have h1 := guard_of (by kernel_rfl) ho hg
            have hi : i ∈ List.range 45 := List.mem_range.2 (by
              have h3 := (List.getElem?_eq_some_iff.1 h1).1
              have h4 : tG.length = 45 := by kernel_rfl
              omega)
            rcases tG_cases _ (List.mem_of_getElem? h1) with e | e | e | e | e
            · cases e
            · cases e
              have hr := (by decide : ∀ i ∈ List.range 45, tG[i]? = some (some (4, false)) → runY i = false) i hi h1
              have hv' : v = (.bool true : Value) := hv
              rw [hr, if_neg Bool.false_ne_true, hv']
              intro e; cases e
            · cases e
              have hr := (by decide : ∀ i ∈ List.range 45, tG[i]? = some (some (9, true)) → runY i = false) i hi h1
              have hv' : v = (undef : Value) := hv
              rw [hr, if_neg Bool.false_ne_true, hv']
              intro e; cases e
            · cases e
              have hr := (by decide : ∀ i ∈ List.range 45, tG[i]? = some (some (25, false)) → runY i = true) i hi h1
              have hv' : v = (.bool false : Value) := hv
              rw [hr, if_pos rfl, hv']
            · cases e
              have hr := (by decide : ∀ i ∈ List.range 45, tG[i]? = some (some (30, true)) → runY i = false) i hi h1
              have hv' : v = (.bool false : Value) := hv
              rw [hr, if_neg Bool.false_ne_true, hv']
              intro e; cases e
          case hng =>
            intro i o ho hr
            have hi : i ∈ List.range 45 := List.mem_range.2 (Array.getElem?_eq_some_iff.1 ho).1
            have h1 := (by decide : ∀ i ∈ List.range 45, runY i = false → ((tG[i]?).bind id).isSome = true) i hi hr
            exact guard_some (by kernel_rfl) ho h1
          case hsk =>
            intro i us w2 hr _
            have h1 : i ∈ ([5, 6, 7, 8, 9, 10, 11, 12, 13, 14, 15, 16, 17, 18, 19, 31, 32, 33, 34, 35, 36, 37, 38, 39] : List Nat) := by
              unfold runY at hr
              rw [Bool.not_eq_false'] at hr
              exact List.contains_iff_mem.1 hr
            simp only [List.mem_cons, List.not_mem_nil, or_false] at h1
            rcases h1 with rfl | rfl | rfl | rfl | rfl | rfl | rfl | rfl | rfl | rfl | rfl | rfl | rfl | rfl | rfl | rfl | rfl | rfl | rfl | rfl | rfl | rfl | rfl | rfl <;> rfl
          case refine_1 =>
            intro _ ac w2 hS h0 hd
            have o5 : ac.tmps[5]?.getD undef = .int .i64 (j : Nat) := ev (h0 5 (by kernel_rfl))
            refine Does2.value (.int .i64 (j : Nat)) (w' := w2) ?_ ⟨rfl, hS, tR_r _ _ _⟩
            clear hS h0 hd
            go_simp
          case refine_2 =>
            intro _ ac w2 hS h0 hd
            have o2 : ac.tmps[2]?.getD undef = .pointer (some ⟨Bb, 0, none⟩) := ev (h0 2 (by kernel_rfl))
            have ck := (hS.cell (cell_lt bB)).trans bB
            refine Does2.value (.slice b lb cb) (w' := w2) ?_ ⟨rfl, hS, tR_r _ _ _⟩
            clear hS h0 hd
            go_simp
          case refine_3 =>
            intro _ ac w2 hS h0 hd
            have d1 : ac.tmps[19]?.getD undef = .slice b lb cb := ev (hd 1 List.mem_cons_self)
            refine Does2.value (.int .i64 (lb : Nat)) (w' := w2) ?_ ⟨rfl, hS, tR_r _ _ _⟩
            clear hS h0 hd
            go_simp
          case refine_4 =>
            intro _ ac w2 hS h0 hd
            have d0 : ac.tmps[18]?.getD undef = .int .i64 (j : Nat) := ev (hd 0 List.mem_cons_self)
            have d2 : ac.tmps[20]?.getD undef = .int .i64 (lb : Nat) := ev (hd 2 (List.mem_cons_of_mem _ List.mem_cons_self))
            refine Does2.value (.bool true) (w' := w2) ?_ ⟨rfl, hS, tR_r _ _ _⟩
            clear hS h0 hd
            go_simp
          case refine_5 =>
            intro _ ac w2 hS h0 hd
            have d3 : ac.tmps[21]?.getD undef = .bool true := ev (hd 3 List.mem_cons_self)
            refine Does2.value (.bool true) (w' := w2) ?_ ⟨rfl, hS, tR_r _ _ _⟩
            clear hS h0 hd
            go_simp
          case refine_6 => exact fun h => absurd h (by decide)
          case refine_7 => exact fun h => absurd h (by decide)
          case refine_8 => exact fun h => absurd h (by decide)
          case refine_9 => exact fun h => absurd h (by decide)
          case refine_10 => exact fun h => absurd h (by decide)
          case refine_11 => exact fun h => absurd h (by decide)
          case refine_12 => exact fun h => absurd h (by decide)
          case refine_13 => exact fun h => absurd h (by decide)
          case refine_14 => exact fun h => absurd h (by decide)
          case refine_15 => exact fun h => absurd h (by decide)
          case refine_16 => exact fun h => absurd h (by decide)
          case refine_17 => exact fun h => absurd h (by decide)
          case refine_18 => exact fun h => absurd h (by decide)
          case refine_19 => exact fun h => absurd h (by decide)
          case refine_20 => exact fun h => absurd h (by decide)
          case refine_21 =>
            intro _ ac w2 hS h0 hd
            have d4 : ac.tmps[22]?.getD undef = .bool true := ev (hd 4 List.mem_cons_self)
            have d19 : ac.tmps[37]?.getD undef = undef := ev (hd 19 (List.mem_cons_of_mem _ List.mem_cons_self))
            refine Does2.value (.bool true) (w' := w2) ?_ ⟨rfl, hS, tR_r _ _ _⟩
            clear hS h0 hd
            go_simp
          case refine_22 =>
            intro _ ac w2 hS h0 hd
            have o4 : ac.tmps[4]?.getD undef = .int .i64 (i : Nat) := ev (h0 4 (by kernel_rfl))
            refine Does2.value (.int .i64 (i : Nat)) (w' := w2) ?_ ⟨rfl, hS, tR_r _ _ _⟩
            clear hS h0 hd
            go_simp
          case refine_23 =>
            intro _ ac w2 hS h0 hd
            have o1 : ac.tmps[1]?.getD undef = .pointer (some ⟨Ba, 0, none⟩) := ev (h0 1 (by kernel_rfl))
            have ck := (hS.cell (cell_lt bA)).trans bA
            refine Does2.value (.slice (some ⟨ga, oa, none⟩) la ca) (w' := w2) ?_ ⟨rfl, hS, tR_r _ _ _⟩
            clear hS h0 hd
            go_simp
          case refine_24 =>
            intro _ ac w2 hS h0 hd
            have d22 : ac.tmps[40]?.getD undef = .slice (some ⟨ga, oa, none⟩) la ca := ev (hd 22 List.mem_cons_self)
            refine Does2.value (.int .i64 (la : Nat)) (w' := w2) ?_ ⟨rfl, hS, tR_r _ _ _⟩
            clear hS h0 hd
            go_simp
          case refine_25 =>
            intro _ ac w2 hS h0 hd
            have d21 : ac.tmps[39]?.getD undef = .int .i64 (i : Nat) := ev (hd 21 List.mem_cons_self)
            have d23 : ac.tmps[41]?.getD undef = .int .i64 (la : Nat) := ev (hd 23 (List.mem_cons_of_mem _ List.mem_cons_self))
            refine Does2.value (.bool false) (w' := w2) ?_ ⟨rfl, hS, tR_r _ _ _⟩
            clear hS h0 hd
            go_simp
          case refine_26 =>
            intro _ ac w2 hS h0 hd
            have d24 : ac.tmps[42]?.getD undef = .bool false := ev (hd 24 List.mem_cons_self)
            refine Does2.value (.bool false) (w' := w2) ?_ ⟨rfl, hS, tR_r _ _ _⟩
            clear hS h0 hd
            go_simp
          case refine_27 =>
            intro _ ac w2 hS h0 hd
            have o5 : ac.tmps[5]?.getD undef = .int .i64 (j : Nat) := ev (h0 5 (by kernel_rfl))
            have d25 : ac.tmps[43]?.getD undef = .bool false := ev (hd 25 List.mem_cons_self)
            refine Does2.value (.int .i64 (j : Nat)) (w' := w2) ?_ ⟨rfl, hS, tR_r _ _ _⟩
            clear hS h0 hd
            go_simp
          case refine_28 =>
            intro _ ac w2 hS h0 hd
            have o2 : ac.tmps[2]?.getD undef = .pointer (some ⟨Bb, 0, none⟩) := ev (h0 2 (by kernel_rfl))
            have d25 : ac.tmps[43]?.getD undef = .bool false := ev (hd 25 List.mem_cons_self)
            have ck := (hS.cell (cell_lt bB)).trans bB
            refine Does2.value (.slice b lb cb) (w' := w2) ?_ ⟨rfl, hS, tR_r _ _ _⟩
            clear hS h0 hd
            go_simp
          case refine_29 =>
            intro _ ac w2 hS h0 hd
            have d27 : ac.tmps[45]?.getD undef = .slice b lb cb := ev (hd 27 List.mem_cons_self)
            have d25 : ac.tmps[43]?.getD undef = .bool false := ev (hd 25 (List.mem_cons_of_mem _ List.mem_cons_self))
            refine Does2.value (.int .i64 (lb : Nat)) (w' := w2) ?_ ⟨rfl, hS, tR_r _ _ _⟩
            clear hS h0 hd
            go_simp
          case refine_30 =>
            intro _ ac w2 hS h0 hd
            have d26 : ac.tmps[44]?.getD undef = .int .i64 (j : Nat) := ev (hd 26 List.mem_cons_self)
            have d28 : ac.tmps[46]?.getD undef = .int .i64 (lb : Nat) := ev (hd 28 (List.mem_cons_of_mem _ List.mem_cons_self))
            have d25 : ac.tmps[43]?.getD undef = .bool false := ev (hd 25 (List.mem_cons_of_mem _ (List.mem_cons_of_mem _ List.mem_cons_self)))
            refine Does2.value (.bool false) (w' := w2) ?_ ⟨rfl, hS, tR_r _ _ _⟩
            clear hS h0 hd
            go_simp
          case refine_31 =>
            intro _ ac w2 hS h0 hd
            have d29 : ac.tmps[47]?.getD undef = .bool false := ev (hd 29 List.mem_cons_self)
            have d25 : ac.tmps[43]?.getD undef = .bool false := ev (hd 25 (List.mem_cons_of_mem _ List.mem_cons_self))
            refine Does2.value (.bool false) (w' := w2) ?_ ⟨rfl, hS, tR_r _ _ _⟩
            clear hS h0 hd
            go_simp
          case refine_32 => exact fun h => absurd h (by decide)
          case refine_33 => exact fun h => absurd h (by decide)
          case refine_34 => exact fun h => absurd h (by decide)
          case refine_35 => exact fun h => absurd h (by decide)
          case refine_36 => exact fun h => absurd h (by decide)
          case refine_37 => exact fun h => absurd h (by decide)
          case refine_38 => exact fun h => absurd h (by decide)
          case refine_39 => exact fun h => absurd h (by decide)
          case refine_40 => exact fun h => absurd h (by decide)
          case refine_41 =>
            intro _ ac w2 hS h0 hd
            have d30 : ac.tmps[48]?.getD undef = .bool false := ev (hd 30 List.mem_cons_self)
            have d39 : ac.tmps[57]?.getD undef = undef := ev (hd 39 (List.mem_cons_of_mem _ List.mem_cons_self))
            have d25 : ac.tmps[43]?.getD undef = .bool false := ev (hd 25 (List.mem_cons_of_mem _ (List.mem_cons_of_mem _ List.mem_cons_self)))
            refine Does2.value (.bool false) (w' := w2) ?_ ⟨rfl, hS, tR_r _ _ _⟩
            clear hS h0 hd
            go_simp
          case refine_42 =>
            intro _ ac w2 hS h0 hd
            have d25 : ac.tmps[43]?.getD undef = .bool false := ev (hd 25 List.mem_cons_self)
            have d40 : ac.tmps[58]?.getD undef = .bool false := ev (hd 40 (List.mem_cons_of_mem _ List.mem_cons_self))
            refine Does2.value (.bool false) (w' := w2) ?_ ⟨rfl, hS, tR_r _ _ _⟩
            clear hS h0 hd
            go_simp
          case refine_43 =>
            intro _ ac w2 hS h0 hd
            have d20 : ac.tmps[38]?.getD undef = .bool true := ev (hd 20 List.mem_cons_self)
            have d41 : ac.tmps[59]?.getD undef = .bool false := ev (hd 41 (List.mem_cons_of_mem _ List.mem_cons_self))
            refine Does2.value (.agg #[.bool true, .bool false]) (w' := w2) ?_ ⟨rfl, hS, tR_r _ _ _⟩
            clear hS h0 hd
            go_simp
          case refine_44 =>
            intro _ ac w2 hS h0 hd
            refine Does2.value (.pointer (some ⟨w2.heap.size, 0, none⟩)) (w' := w2.alloc (.cells #[.bool false, .bool false] 97)) ?_ ⟨⟨w2.heap.size, rfl, hS.size, _, Go.Deep.blk_alloc_new _ _, rfl⟩, hS.alloc hS.size _, .inr ((Below.refl _ _).alloc (Nat.le_refl _) _), fun B c _ h1 h2 => ⟨c, by rw [((Below.refl w2.heap.size w2).alloc (Nat.le_refl _) _).block B (Array.getElem?_eq_some_iff.1 h1).1]; exact h1, h2⟩⟩
            clear hS h0 hd
            go_simp
          case refine_45 =>
            intro _ ac w2 hS h0 hd
            obtain ⟨B, eB, hB, cc, hc1, hc2⟩ := hd 43 List.mem_cons_self
            have eB' : ac.tmps[6]?.getD undef = .pointer (some ⟨B, 0, none⟩) := ev eB
            obtain ⟨c0, c1, rfl⟩ : ∃ c0 c1, cc = #[c0, c1] := by
              obtain ⟨l⟩ := cc
              match l, hc2 with
              | [x0, x1], _ => exact ⟨x0, x1, rfl⟩
            have d42 : ac.tmps[60]?.getD undef = .agg #[.bool true, .bool false] := ev (hd 42 (List.mem_cons_of_mem _ List.mem_cons_self))
            obtain ⟨k0, k1, f0, f1, hb2⟩ := two_cells hc1 (.bool true) (.bool false)
            refine Does2.skip (w' := (w2.setCell ⟨B, 0, none⟩ (.bool true)).setCell ⟨B, 1, none⟩ (.bool false)) ?_ ⟨⟨B, _, by simp [valAt, tD]; exact ⟨eB, rfl⟩, hB, hb2⟩, (hS.setCell (p := ⟨B, 0, none⟩) hB _).setCell (p := ⟨B, 1, none⟩) hB _, .inl rfl, fun B' c hB' h1 h2 => ?_⟩
            · clear hS h0 hd
              go_simp
            · by_cases e : B' = B
              · subst e; exact ⟨_, hb2, rfl⟩
              · refine ⟨c, ?_, h2⟩
                rw [Below.heap_setCell _ ⟨B, 1, none⟩ _ B' e, Below.heap_setCell _ ⟨B, 0, none⟩ _ B' e]
                exact h1
          case hend =>
            intro f w2 hS hV
            obtain ⟨B, e6, hBN, _⟩ := hV 43 (by decide)
            have e6 : f 6 = .pointer (some ⟨B, 0, none⟩) := e6
            obtain ⟨B2, u, eus, _, hbl⟩ := hV 44 (by decide)
            have eB : B2 = B := by
              have h1 : some (f 6) = some (.pointer (some ⟨B2, 0, none⟩)) := congrArg (fun l : List Value => l.head?) eus
              rw [e6] at h1; simp at h1; exact h1.symm
            subst eB
            obtain ⟨k0, k1, f0, f1, _⟩ := two_cells hbl undef undef
            have bA2 := (hS.cell (cell_lt bA)).trans bA
            have bB2 := (hS.cell (cell_lt bB)).trans bB
            have cx2 := (hS.cell (cell_lt cx)).trans cx
            have HK2 := Lib.hid (kp2_below HK.out (Nat.le_trans hW hsz) hS)
            have HJ2 := Lib.hid (HJ.out pre wr w2 none HJS.out (grown_of_below hS) (fun r e => by cases e))
            have hsz2 : W.heap.size ≤ w2.heap.size := Nat.le_trans hsz hS.size
            simp only [putAll, Act.put, List.setIfInBounds_toArray, List.set_cons_zero, List.set_cons_succ, e6]
            clear hS hV eus hbl e6

            have hthr : thr (xs.drop i) (ys.drop j) = (x, true, false) :: thr (xs.drop (i + 1)) (ys.drop j) := by rw [drop_cons (l := xs) (i := i) (by rw [HX.out]; exact hil), drop_end (l := ys) (i := j) (by rw [HY.out]; omega), HXV.out, thr_l]
            have hlen : pre.length < (thr xs ys).length := by rw [← HP.out, hthr]; simp
            have HN : Hid ((pre ++ [(x, true, false)]) ++ thr (xs.drop (i + 1)) (ys.drop j) = thr xs ys) := Lib.hid (by rw [← HP.out, hthr]; simp)
            clear hthr
            obtain ⟨fn, tmps, assign, body, hy, hR⟩ := hY pre (x, true, false) w2 HJ2.out hlen
            dsimp only at hy
            gi_wp2
            refine hR.mono ?_
            rintro e W3 (⟨rfl, hJ3, hk3⟩ | ⟨rfl, hJx3⟩)
            · gi_wp2
              go_roundw
              case rel => exact ⟨(i + 1), j, _, by go_num, rfl, by omega, by omega, HN.out, hJ3, kp2_t HK2.out hk3, Nat.le_trans hsz2 hk3.1.size⟩
              case measure => simp [intOf]; omega
            · gi_wp2
              refine bodyPost_ret (results_none rfl _ _ _) rfl ?_
              exact ⟨⟨_, rfl⟩, .inr ⟨_, trivial, hJx3⟩⟩
    · have hiz : ¬ ((i : Int) < (la : Int)) := by omega
      have hine : ((i : Int) == (la : Int)) = true := by simp; omega
      by_cases hjl : j < lb
      · rcases HYS.out with e | ⟨gb, ob, rfl, hgb, hcb⟩
        · have := HY.out; rw [e] at this; simp at this; omega
        · have cy : wr.cell? ⟨gb, ob + j, none⟩ = some (.int .u32 (ys.getD j 0)) := (HK.out.1.cell (p := ⟨gb, ob + j, none⟩) hgb).trans (hcb j hjl)
          clear hcb
          have hjne : ((j : Int) == (lb : Int)) = false := by simp; omega
          have hjz : (j : Int) < (lb : Int) := by omega
          generalize hyv : ys.getD j 0 = y at *
          have HYV := Lib.hid hyv
          clear hyv
          gi_wp2
          refine wpIn_wide.2 ?_
          refine wp_region_each4 (tV wr.heap.size (valZ i j la lb ca cb gb ob a) false true) (fun w2 => Below wr.heap.size wr w2) (tR wr.heap.size) tD runZ [18, 19, 20, 21, 22, 23, 24, 25, 26, 27, 28, 29, 30, 31, 32, 33, 34, 35, 36, 37, 38, 39, 40, 41, 42, 43, 44, 45, 46, 47, 48, 49, 50, 51, 52, 53, 54, 55, 56, 57, 58, 59, 60, 6] (by kernel_rfl) (by kernel_rfl) (by kernel_rfl) (Below.refl _ wr).drew
            (fun i j oi oj v us A B hoi hoj hij hw hSA hr hv => tV_stable hij hr hv) ?hgd ?hng ?hsk
            ⟨?_, ?_, ?_, ?_, ?_, ?_, ?_, ?_, ?_, ?_, ?_, ?_, ?_, ?_, ?_, ?_, ?_, ?_, ?_, ?_, ?_, ?_, ?_, ?_, ?_, ?_, ?_, ?_, ?_, ?_, ?_, ?_, ?_, ?_, ?_, ?_, ?_, ?_, ?_, ?_, ?_, ?_, ?_, ?_, ?_, trivial⟩ ?hend
          case hgd =>
            intro i o g b ho hg v us w2 hv
            have h1 := guard_of (by kernel_rfl) ho hg
            have hi : i ∈ List.range 45 := List.mem_range.2 (by
              have h3 := (List.getElem?_eq_some_iff.1 h1).1
              have h4 : tG.length = 45 := by kernel_rfl
              omega)
            rcases tG_cases _ (List.mem_of_getElem? h1) with e | e | e | e | e
            · cases e
            · cases e
              have hr := (by decide : ∀ i ∈ List.range 45, tG[i]? = some (some (4, false)) → runZ i = true) i hi h1
              have hv' : v = (.bool false : Value) := hv
              rw [hr, if_pos rfl, hv']
            · cases e
              have hr := (by decide : ∀ i ∈ List.range 45, tG[i]? = some (some (9, true)) → runZ i = false) i hi h1
              have hv' : v = (.bool false : Value) := hv
              rw [hr, if_neg Bool.false_ne_true, hv']
              intro e; cases e
            · cases e
              have hr := (by decide : ∀ i ∈ List.range 45, tG[i]? = some (some (25, false)) → runZ i = false) i hi h1
              have hv' : v = (.bool true : Value) := hv
              rw [hr, if_neg Bool.false_ne_true, hv']
              intro e; cases e
            · cases e
              have hr := (by decide : ∀ i ∈ List.range 45, tG[i]? = some (some (30, true)) → runZ i = false) i hi h1
              have hv' : v = (undef : Value) := hv
              rw [hr, if_neg Bool.false_ne_true, hv']
              intro e; cases e
          case hng =>
            intro i o ho hr
            have hi : i ∈ List.range 45 := List.mem_range.2 (Array.getElem?_eq_some_iff.1 ho).1
            have h1 := (by decide : ∀ i ∈ List.range 45, runZ i = false → ((tG[i]?).bind id).isSome = true) i hi hr
            exact guard_some (by kernel_rfl) ho h1
          case hsk =>
            intro i us w2 hr _
            have h1 : i ∈ ([10, 11, 12, 13, 14, 15, 16, 17, 18, 26, 27, 28, 29, 30, 31, 32, 33, 34, 35, 36, 37, 38, 39, 40] : List Nat) := by
              unfold runZ at hr
              rw [Bool.not_eq_false'] at hr
              exact List.contains_iff_mem.1 hr
            simp only [List.mem_cons, List.not_mem_nil, or_false] at h1
            rcases h1 with rfl | rfl | rfl | rfl | rfl | rfl | rfl | rfl | rfl | rfl | rfl | rfl | rfl | rfl | rfl | rfl | rfl | rfl | rfl | rfl | rfl | rfl | rfl | rfl <;> rfl
          case refine_1 =>
            intro _ ac w2 hS h0 hd
            have o5 : ac.tmps[5]?.getD undef = .int .i64 (j : Nat) := ev (h0 5 (by kernel_rfl))
            refine Does2.value (.int .i64 (j : Nat)) (w' := w2) ?_ ⟨rfl, hS, tR_r _ _ _⟩
            clear hS h0 hd
            go_simp
          case refine_2 =>
            intro _ ac w2 hS h0 hd
            have o2 : ac.tmps[2]?.getD undef = .pointer (some ⟨Bb, 0, none⟩) := ev (h0 2 (by kernel_rfl))
            have ck := (hS.cell (cell_lt bB)).trans bB
            refine Does2.value (.slice (some ⟨gb, ob, none⟩) lb cb) (w' := w2) ?_ ⟨rfl, hS, tR_r _ _ _⟩
            clear hS h0 hd
            go_simp
          case refine_3 =>
            intro _ ac w2 hS h0 hd
            have d1 : ac.tmps[19]?.getD undef = .slice (some ⟨gb, ob, none⟩) lb cb := ev (hd 1 List.mem_cons_self)
            refine Does2.value (.int .i64 (lb : Nat)) (w' := w2) ?_ ⟨rfl, hS, tR_r _ _ _⟩
            clear hS h0 hd
            go_simp
          case refine_4 =>
            intro _ ac w2 hS h0 hd
            have d0 : ac.tmps[18]?.getD undef = .int .i64 (j : Nat) := ev (hd 0 List.mem_cons_self)
            have d2 : ac.tmps[20]?.getD undef = .int .i64 (lb : Nat) := ev (hd 2 (List.mem_cons_of_mem _ List.mem_cons_self))
            refine Does2.value (.bool false) (w' := w2) ?_ ⟨rfl, hS, tR_r _ _ _⟩
            clear hS h0 hd
            go_simp
          case refine_5 =>
            intro _ ac w2 hS h0 hd
            have d3 : ac.tmps[21]?.getD undef = .bool false := ev (hd 3 List.mem_cons_self)
            refine Does2.value (.bool false) (w' := w2) ?_ ⟨rfl, hS, tR_r _ _ _⟩
            clear hS h0 hd
            go_simp
          case refine_6 =>
            intro _ ac w2 hS h0 hd
            have o4 : ac.tmps[4]?.getD undef = .int .i64 (i : Nat) := ev (h0 4 (by kernel_rfl))
            have d4 : ac.tmps[22]?.getD undef = .bool false := ev (hd 4 List.mem_cons_self)
            refine Does2.value (.int .i64 (i : Nat)) (w' := w2) ?_ ⟨rfl, hS, tR_r _ _ _⟩
            clear hS h0 hd
            go_simp
          case refine_7 =>
            intro _ ac w2 hS h0 hd
            have o1 : ac.tmps[1]?.getD undef = .pointer (some ⟨Ba, 0, none⟩) := ev (h0 1 (by kernel_rfl))
            have d4 : ac.tmps[22]?.getD undef = .bool false := ev (hd 4 List.mem_cons_self)
            have ck := (hS.cell (cell_lt bA)).trans bA
            refine Does2.value (.slice a la ca) (w' := w2) ?_ ⟨rfl, hS, tR_r _ _ _⟩
            clear hS h0 hd
            go_simp
          case refine_8 =>
            intro _ ac w2 hS h0 hd
            have d6 : ac.tmps[24]?.getD undef = .slice a la ca := ev (hd 6 List.mem_cons_self)
            have d4 : ac.tmps[22]?.getD undef = .bool false := ev (hd 4 (List.mem_cons_of_mem _ List.mem_cons_self))
            refine Does2.value (.int .i64 (la : Nat)) (w' := w2) ?_ ⟨rfl, hS, tR_r _ _ _⟩
            clear hS h0 hd
            go_simp
          case refine_9 =>
            intro _ ac w2 hS h0 hd
            have d5 : ac.tmps[23]?.getD undef = .int .i64 (i : Nat) := ev (hd 5 List.mem_cons_self)
            have d7 : ac.tmps[25]?.getD undef = .int .i64 (la : Nat) := ev (hd 7 (List.mem_cons_of_mem _ List.mem_cons_self))
            have d4 : ac.tmps[22]?.getD undef = .bool false := ev (hd 4 (List.mem_cons_of_mem _ (List.mem_cons_of_mem _ List.mem_cons_self)))
            refine Does2.value (.bool false) (w' := w2) ?_ ⟨rfl, hS, tR_r _ _ _⟩
            clear hS h0 hd
            go_simp
          case refine_10 =>
            intro _ ac w2 hS h0 hd
            have d8 : ac.tmps[26]?.getD undef = .bool false := ev (hd 8 List.mem_cons_self)
            have d4 : ac.tmps[22]?.getD undef = .bool false := ev (hd 4 (List.mem_cons_of_mem _ List.mem_cons_self))
            refine Does2.value (.bool false) (w' := w2) ?_ ⟨rfl, hS, tR_r _ _ _⟩
            clear hS h0 hd
            go_simp
          case refine_11 => exact fun h => absurd h (by decide)
          case refine_12 => exact fun h => absurd h (by decide)
          case refine_13 => exact fun h => absurd h (by decide)
          case refine_14 => exact fun h => absurd h (by decide)
          case refine_15 => exact fun h => absurd h (by decide)
          case refine_16 => exact fun h => absurd h (by decide)
          case refine_17 => exact fun h => absurd h (by decide)
          case refine_18 => exact fun h => absurd h (by decide)
          case refine_19 => exact fun h => absurd h (by decide)
          case refine_20 =>
            intro _ ac w2 hS h0 hd
            have d9 : ac.tmps[27]?.getD undef = .bool false := ev (hd 9 List.mem_cons_self)
            have d18 : ac.tmps[36]?.getD undef = undef := ev (hd 18 (List.mem_cons_of_mem _ List.mem_cons_self))
            have d4 : ac.tmps[22]?.getD undef = .bool false := ev (hd 4 (List.mem_cons_of_mem _ (List.mem_cons_of_mem _ List.mem_cons_self)))
            refine Does2.value (.bool false) (w' := w2) ?_ ⟨rfl, hS, tR_r _ _ _⟩
            clear hS h0 hd
            go_simp
          case refine_21 =>
            intro _ ac w2 hS h0 hd
            have d4 : ac.tmps[22]?.getD undef = .bool false := ev (hd 4 List.mem_cons_self)
            have d19 : ac.tmps[37]?.getD undef = .bool false := ev (hd 19 (List.mem_cons_of_mem _ List.mem_cons_self))
            refine Does2.value (.bool false) (w' := w2) ?_ ⟨rfl, hS, tR_r _ _ _⟩
            clear hS h0 hd
            go_simp
          case refine_22 =>
            intro _ ac w2 hS h0 hd
            have o4 : ac.tmps[4]?.getD undef = .int .i64 (i : Nat) := ev (h0 4 (by kernel_rfl))
            refine Does2.value (.int .i64 (i : Nat)) (w' := w2) ?_ ⟨rfl, hS, tR_r _ _ _⟩
            clear hS h0 hd
            go_simp
          case refine_23 =>
            intro _ ac w2 hS h0 hd
            have o1 : ac.tmps[1]?.getD undef = .pointer (some ⟨Ba, 0, none⟩) := ev (h0 1 (by kernel_rfl))
            have ck := (hS.cell (cell_lt bA)).trans bA
            refine Does2.value (.slice a la ca) (w' := w2) ?_ ⟨rfl, hS, tR_r _ _ _⟩
            clear hS h0 hd
            go_simp
          case refine_24 =>
            intro _ ac w2 hS h0 hd
            have d22 : ac.tmps[40]?.getD undef = .slice a la ca := ev (hd 22 List.mem_cons_self)
            refine Does2.value (.int .i64 (la : Nat)) (w' := w2) ?_ ⟨rfl, hS, tR_r _ _ _⟩
            clear hS h0 hd
            go_simp
          case refine_25 =>
            intro _ ac w2 hS h0 hd
            have d21 : ac.tmps[39]?.getD undef = .int .i64 (i : Nat) := ev (hd 21 List.mem_cons_self)
            have d23 : ac.tmps[41]?.getD undef = .int .i64 (la : Nat) := ev (hd 23 (List.mem_cons_of_mem _ List.mem_cons_self))
            refine Does2.value (.bool true) (w' := w2) ?_ ⟨rfl, hS, tR_r _ _ _⟩
            clear hS h0 hd
            go_simp
          case refine_26 =>
            intro _ ac w2 hS h0 hd
            have d24 : ac.tmps[42]?.getD undef = .bool true := ev (hd 24 List.mem_cons_self)
            refine Does2.value (.bool true) (w' := w2) ?_ ⟨rfl, hS, tR_r _ _ _⟩
            clear hS h0 hd
            go_simp
          case refine_27 => exact fun h => absurd h (by decide)
          case refine_28 => exact fun h => absurd h (by decide)
          case refine_29 => exact fun h => absurd h (by decide)
          case refine_30 => exact fun h => absurd h (by decide)
          case refine_31 => exact fun h => absurd h (by decide)
          case refine_32 => exact fun h => absurd h (by decide)
          case refine_33 => exact fun h => absurd h (by decide)
          case refine_34 => exact fun h => absurd h (by decide)
          case refine_35 => exact fun h => absurd h (by decide)
          case refine_36 => exact fun h => absurd h (by decide)
          case refine_37 => exact fun h => absurd h (by decide)
          case refine_38 => exact fun h => absurd h (by decide)
          case refine_39 => exact fun h => absurd h (by decide)
          case refine_40 => exact fun h => absurd h (by decide)
          case refine_41 => exact fun h => absurd h (by decide)
          case refine_42 =>
            intro _ ac w2 hS h0 hd
            have d25 : ac.tmps[43]?.getD undef = .bool true := ev (hd 25 List.mem_cons_self)
            have d40 : ac.tmps[58]?.getD undef = undef := ev (hd 40 (List.mem_cons_of_mem _ List.mem_cons_self))
            refine Does2.value (.bool true) (w' := w2) ?_ ⟨rfl, hS, tR_r _ _ _⟩
            clear hS h0 hd
            go_simp
          case refine_43 =>
            intro _ ac w2 hS h0 hd
            have d20 : ac.tmps[38]?.getD undef = .bool false := ev (hd 20 List.mem_cons_self)
            have d41 : ac.tmps[59]?.getD undef = .bool true := ev (hd 41 (List.mem_cons_of_mem _ List.mem_cons_self))
            refine Does2.value (.agg #[.bool false, .bool true]) (w' := w2) ?_ ⟨rfl, hS, tR_r _ _ _⟩
            clear hS h0 hd
            go_simp
          case refine_44 =>
            intro _ ac w2 hS h0 hd
            refine Does2.value (.pointer (some ⟨w2.heap.size, 0, none⟩)) (w' := w2.alloc (.cells #[.bool false, .bool false] 97)) ?_ ⟨⟨w2.heap.size, rfl, hS.size, _, Go.Deep.blk_alloc_new _ _, rfl⟩, hS.alloc hS.size _, .inr ((Below.refl _ _).alloc (Nat.le_refl _) _), fun B c _ h1 h2 => ⟨c, by rw [((Below.refl w2.heap.size w2).alloc (Nat.le_refl _) _).block B (Array.getElem?_eq_some_iff.1 h1).1]; exact h1, h2⟩⟩
            clear hS h0 hd
            go_simp
          case refine_45 =>
            intro _ ac w2 hS h0 hd
            obtain ⟨B, eB, hB, cc, hc1, hc2⟩ := hd 43 List.mem_cons_self
            have eB' : ac.tmps[6]?.getD undef = .pointer (some ⟨B, 0, none⟩) := ev eB
            obtain ⟨c0, c1, rfl⟩ : ∃ c0 c1, cc = #[c0, c1] := by
              obtain ⟨l⟩ := cc
              match l, hc2 with
              | [x0, x1], _ => exact ⟨x0, x1, rfl⟩
            have d42 : ac.tmps[60]?.getD undef = .agg #[.bool false, .bool true] := ev (hd 42 (List.mem_cons_of_mem _ List.mem_cons_self))
            obtain ⟨k0, k1, f0, f1, hb2⟩ := two_cells hc1 (.bool false) (.bool true)
            refine Does2.skip (w' := (w2.setCell ⟨B, 0, none⟩ (.bool false)).setCell ⟨B, 1, none⟩ (.bool true)) ?_ ⟨⟨B, _, by simp [valAt, tD]; exact ⟨eB, rfl⟩, hB, hb2⟩, (hS.setCell (p := ⟨B, 0, none⟩) hB _).setCell (p := ⟨B, 1, none⟩) hB _, .inl rfl, fun B' c hB' h1 h2 => ?_⟩
            · clear hS h0 hd
              go_simp
            · by_cases e : B' = B
              · subst e; exact ⟨_, hb2, rfl⟩
              · refine ⟨c, ?_, h2⟩
                rw [Below.heap_setCell _ ⟨B, 1, none⟩ _ B' e, Below.heap_setCell _ ⟨B, 0, none⟩ _ B' e]
                exact h1
          case hend =>
            intro f w2 hS hV
            obtain ⟨B, e6, hBN, _⟩ := hV 43 (by decide)
            have e6 : f 6 = .pointer (some ⟨B, 0, none⟩) := e6
            obtain ⟨B2, u, eus, _, hbl⟩ := hV 44 (by decide)
            have eB : B2 = B := by
              have h1 : some (f 6) = some (.pointer (some ⟨B2, 0, none⟩)) := congrArg (fun l : List Value => l.head?) eus
              rw [e6] at h1; simp at h1; exact h1.symm
            subst eB
            obtain ⟨k0, k1, f0, f1, _⟩ := two_cells hbl undef undef
            have bA2 := (hS.cell (cell_lt bA)).trans bA
            have bB2 := (hS.cell (cell_lt bB)).trans bB
            have cy2 := (hS.cell (cell_lt cy)).trans cy
            have HK2 := Lib.hid (kp2_below HK.out (Nat.le_trans hW hsz) hS)
            have HJ2 := Lib.hid (HJ.out pre wr w2 none HJS.out (grown_of_below hS) (fun r e => by cases e))
            have hsz2 : W.heap.size ≤ w2.heap.size := Nat.le_trans hsz hS.size
            simp only [putAll, Act.put, List.setIfInBounds_toArray, List.set_cons_zero, List.set_cons_succ, e6]
            clear hS hV eus hbl e6

            have hthr : thr (xs.drop i) (ys.drop j) = (y, false, true) :: thr (xs.drop i) (ys.drop (j + 1)) := by rw [drop_end (l := xs) (i := i) (by rw [HX.out]; omega), drop_cons (l := ys) (i := j) (by rw [HY.out]; exact hjl), HYV.out, thr_r]
            have hlen : pre.length < (thr xs ys).length := by rw [← HP.out, hthr]; simp
            have HN : Hid ((pre ++ [(y, false, true)]) ++ thr (xs.drop i) (ys.drop (j + 1)) = thr xs ys) := Lib.hid (by rw [← HP.out, hthr]; simp)
            clear hthr
            obtain ⟨fn, tmps, assign, body, hy, hR⟩ := hY pre (y, false, true) w2 HJ2.out hlen
            dsimp only at hy
            gi_wp2
            refine hR.mono ?_
            rintro e W3 (⟨rfl, hJ3, hk3⟩ | ⟨rfl, hJx3⟩)
            · gi_wp2
              go_roundw
              case rel => exact ⟨i, (j + 1), _, rfl, by go_num, by omega, by omega, HN.out, hJ3, kp2_t HK2.out hk3, Nat.le_trans hsz2 hk3.1.size⟩
              case measure => simp [intOf]; omega
            · gi_wp2
              refine bodyPost_ret (results_none rfl _ _ _) rfl ?_
              exact ⟨⟨_, rfl⟩, .inr ⟨_, trivial, hJx3⟩⟩
      · have hjz : ¬ ((j : Int) < (lb : Int)) := by omega
        have hend : pre = thr xs ys := by
          rw [← HP.out, drop_end (l := xs) (i := i) (by rw [HX.out]; omega), drop_end (l := ys) (i := j) (by rw [HY.out]; omega), thr_nil, List.append_nil]
        have HE := Lib.hid hend
        clear hend
        gi_wp2
        go_end0
        exact ⟨⟨_, rfl⟩, .inl (by rw [← HE.out]; exact HJS.out)⟩
end Go.Proofs.YtllpmepmgnnoaaaGreat

