/- Contracts of package sum: the words of bytes, told one by one. -/
import Derived.Test.YthmejokjbkkfbaaSa
import Derived.RangeFuncNested
import Derived.RangeFuncBound
import Derived.RangeFuncCalls
import Derived.RangeFuncLeaves
import Derived.RangeFuncBox
import Derived.Shelf.Abstract
import Derived.Shelf.RegionOpen
import Derived.WalkKit
import Derived.OwnWalkIn
import Derived.TacticsInMore
import Derived.LoopNIn
import Derived.LoopIn
import Derived.Test.YthmejokjbkkfbaaBt
namespace Go.Proofs.Ythmejokjbkkfbaa
set_option linter.unusedVariables false
open Go.RowKit Go.Shelf
attribute [local go_sem] Oper.semAt_some

abbrev W16 := { x : Int // 0 ≤ x ∧ x ≤ 65535 }
/-- The first k words. -/
def words {xs : List Int} (h : IsB xs) (k : Nat) : List W16 := (List.range k).map fun j => ⟨wrd xs j, wrd_bd h j⟩
theorem words_succ {xs : List Int} (h : IsB xs) (k : Nat) : words h (k + 1) = words h k ++ [⟨wrd xs k, wrd_bd h k⟩] := by simp [words, List.range_succ]
/-- What a round keeps: what lay below n₀, and the box of the bytes. -/
def KpB (n₀ Bn : Nat) (W W' : World) : Prop := Below n₀ W W' ∧ ∀ v, W.cell? ⟨Bn, 0, none⟩ = some v → W'.cell? ⟨Bn, 0, none⟩ = some v
theorem kpB_t {n₀ Bn : Nat} {A B C : World} (h : KpB n₀ Bn A B) (k : KpB n₀ Bn B C) : KpB n₀ Bn A C := ⟨h.1.trans k.1, fun v e => k.2 v (h.2 v e)⟩
theorem kpB_b {n₀ Bn : Nat} {w : World} (hn : n₀ ≤ w.heap.size) (W : World) (l : Nat) (o o' : Obj) (hl : w.heap.size ≤ l) (h : W.heap[l]? = some o) (hc : o.isCells = false) (hw : o.isWalk = false) : KpB n₀ Bn W (W.putObj l o') :=
  ⟨belowK_b hn W l o o' hl h hc hw, fun v e => cell_kept e (grownBy_putObj' W l o') (fun r e' => by cases e'; exact ⟨o, h, hc⟩)⟩
theorem word_eq {xs : List Int} {h : IsB xs} {k : Nat} {v : Int} (hv : 0 ≤ v ∧ v ≤ 65535) (e : v = wrd xs k) : (⟨v, hv⟩ : W16) = ⟨wrd xs k, wrd_bd h k⟩ := Subtype.ext e
theorem words_length {xs : List Int} (h : IsB xs) (k : Nat) : (words h k).length = k := by simp [words]

set_option maxRecDepth 100000 in
set_option maxHeartbeats 2000000 in
theorem words1_in (F : Fence) (n : Nat) (h7 : F.fn 45) (hro : F.round = none) (hn : 1 ≤ n) (l Bn n₀ b off len cap N : Nat) (xs : List Int) (hx : xs.length = len) (hN : len ≤ 2 * N) (hN' : 2 * N ≤ len + 1) (hlen : len ≤ 1000000) (hb : b < n₀) (J Jx : List W16 → World → Prop) (hB : IsB xs)
    (hY : ∀ pre x W, J pre W → pre.length < N → YieldAt F (n - 1) Try.prog l #[.int .u16 x.1] W fun e W' =>
      (e = .returned (.bool true) ∧ J (pre ++ [x]) W' ∧ KpB n₀ Bn W W') ∨ (e = .returned (.bool false) ∧ Jx (pre ++ [x]) W'))
    (W : World) (hBn : W.cell? ⟨Bn, 0, none⟩ = some (.slice (some ⟨b, off, none⟩) len cap)) (hc : ∀ j, j < len → W.cell? ⟨b, off + j, none⟩ = some (.int .u8 (xs.getD j 0))) (h0 : J [] W) :
    CallsIn F n Try.prog 45 #[.func (.yield l) #[] #[], .pointer (some ⟨Bn, 0, none⟩)] W fun e W' => (∃ v, e = .returned v) ∧
      ((∃ ys, ys = words hB N ∧ J ys W') ∨ (∃ pre, (∃ k, k ≤ N ∧ pre = words hB k) ∧ Jx pre W')) := by
  have HX := Lib.hid hx
  have HC := Lib.hid hc
  have HBn := Lib.hid hBn
  clear hx hc
  refine callsIn_of_wp Try.func45 rfl h7 ?_ hro
  simp only [Try.ntmps45, List.size_toArray, List.length_cons, List.length_nil, Nat.reduceAdd, Nat.reduceSub, Array.replicate_succ, Array.replicate_zero, List.push_toArray, List.append_toArray, List.nil_append, List.cons_append]
  gi_wp2
  gi_loopw [3] (fun i wr => ∃ k j : Nat, j = 2 * k ∧ k ≤ N ∧ i = .int .i64 j ∧ J (words hB k) wr ∧ KpB n₀ Bn W wr)
    (fun i _ => len + 2 - (intOf i).toNat)
  case atStart => exact ⟨0, 0, rfl, by omega, rfl, h0, Below.refl _ _, fun _ h => h⟩
  case round =>
    obtain ⟨k, j, hj, hk, rfl, hJs, hnx⟩ := hrel
    clear hBn
    have HJ := Lib.hid hj
    have hBn : wr.cell? ⟨Bn, 0, none⟩ = some (.slice (some ⟨b, off, none⟩) len cap) := hnx.2 _ HBn.out
    by_cases hlt : j < len
    · have c1 : wr.cell? ⟨b, off + j, none⟩ = some (.int .u8 (xs.getD j 0)) := (hnx.1.cell (p := ⟨b, off + j, none⟩) hb).trans (HC.out j hlt)
      have b1 := getD_bd hB j
      have b2 := getD_bd hB (j + 1)
      have hkN : k < N := by omega
      clear hj
      by_cases hl2 : j + 1 < len
      · have c2 : wr.cell? ⟨b, off + (j + 1), none⟩ = some (.int .u8 (xs.getD (j + 1) 0)) := (hnx.1.cell (p := ⟨b, off + (j + 1), none⟩) hb).trans (HC.out (j + 1) hl2)
        have e1 : ((j : Int) + 1).toNat = j + 1 := by omega
        have ev : bits .or .u16 (xs.getD j 0 * 256) (xs.getD (j + 1) 0) = wrd xs k := by
          rw [or_hl b1 b2, wrd, ← HJ.out]
        have EV := Lib.hid ev
        have hbd := wrd_bd hB k
        rw [← ev] at hbd
        clear ev
        generalize hv1 : xs.getD j 0 = x1 at *
        generalize hv2 : xs.getD (j + 1) 0 = x2 at *
        clear hv1 hv2
        obtain ⟨fn, tmps, assign, body, hy, hR⟩ := hY _ ⟨bits .or .u16 (x1 * 256) x2, hbd⟩ wr hJs (by rw [words_length]; exact hkN)
        dsimp only at hy
        gi_wp2
        refine hR.mono ?_
        rintro e W3 (⟨rfl, hJ3, hk3⟩ | ⟨rfl, hJx3⟩)
        · gi_wp2
          go_roundw
          case rel => exact ⟨k + 1, j + 2, by have := HJ.out; omega, by omega, by go_num, by rw [words_succ, ← word_eq (h := hB) hbd EV.out]; exact hJ3, kpB_t hnx hk3⟩
          case measure => simp [intOf]; omega
        · gi_wp2
          refine bodyPost_ret (results_none rfl _ _ _) rfl ?_
          exact ⟨⟨_, rfl⟩, .inr ⟨_, ⟨k + 1, by omega, by rw [words_succ, ← word_eq (h := hB) hbd EV.out]⟩, hJx3⟩⟩
      · have ev : xs.getD j 0 * 256 = wrd xs k := by
          have e0 : xs.getD (j + 1) 0 = 0 := by
            rw [List.getD_eq_getElem?_getD, List.getElem?_eq_none (by rw [HX.out]; omega)]; rfl
          rw [wrd, ← HJ.out, e0]; omega
        have EV := Lib.hid ev
        have hbd := wrd_bd hB k
        rw [← ev] at hbd
        clear ev b2
        generalize hv1 : xs.getD j 0 = x1 at *
        clear hv1
        obtain ⟨fn, tmps, assign, body, hy, hR⟩ := hY _ ⟨x1 * 256, hbd⟩ wr hJs (by rw [words_length]; exact hkN)
        dsimp only at hy
        gi_wp2
        refine hR.mono ?_
        rintro e W3 (⟨rfl, hJ3, hk3⟩ | ⟨rfl, hJx3⟩)
        · gi_wp2
          go_roundw
          case rel => exact ⟨k + 1, j + 2, by have := HJ.out; omega, by omega, by go_num, by rw [words_succ, ← word_eq (h := hB) hbd EV.out]; exact hJ3, kpB_t hnx hk3⟩
          case measure => simp [intOf]; omega
        · gi_wp2
          refine bodyPost_ret (results_none rfl _ _ _) rfl ?_
          exact ⟨⟨_, rfl⟩, .inr ⟨_, ⟨k + 1, by omega, by rw [words_succ, ← word_eq (h := hB) hbd EV.out]⟩, hJx3⟩⟩
    · have hkN : k = N := by omega
      have HK := Lib.hid hkN
      clear hkN hj
      gi_wp2
      go_end0
      exact ⟨⟨_, rfl⟩, .inl ⟨_, rfl, by rw [← HK.out]; exact hJs⟩⟩

set_option maxRecDepth 100000 in
set_option maxHeartbeats 1000000 in
/-- .. without bytes: no round. -/
theorem words1_no (F : Fence) (n : Nat) (h7 : F.fn 45) (hro : F.round = none) (l Bn cap : Nat) (a : Option Addr) (J : List W16 → World → Prop) (W : World) (hBn : W.cell? ⟨Bn, 0, none⟩ = some (.slice a 0 cap)) (h0 : J [] W) :
    CallsIn F n Try.prog 45 #[.func (.yield l) #[] #[], .pointer (some ⟨Bn, 0, none⟩)] W fun e W' => (∃ v, e = .returned v) ∧ J [] W' := by
  refine callsIn_of_wp Try.func45 rfl h7 ?_ hro
  simp only [Try.ntmps45, List.size_toArray, List.length_cons, List.length_nil, Nat.reduceAdd, Nat.reduceSub, Array.replicate_succ, Array.replicate_zero, List.push_toArray, List.append_toArray, List.nil_append, List.cons_append]
  gi_wp2
  gi_loopw [3] (fun i wr => i = .int .i64 0 ∧ wr = W) (fun _ _ => 0)
  case atStart => exact ⟨rfl, rfl⟩
  case round =>
    obtain ⟨rfl, rfl⟩ := hrel
    gi_wp2
    go_end0
    exact ⟨⟨_, rfl⟩, h0⟩

/-- All the words of a slice of bytes, one by one; or the first k of them. -/
theorem words_stops (F : Fence) (n : Nat) (h7 : F.fn 45) (hro : F.round = none) (hn : 1 ≤ n) (Bn N : Nat) (a : Option Addr) (len cap : Nat) (xs : List Int) (hx : xs.length = len) (hN : len ≤ 2 * N) (hN' : 2 * N ≤ len + 1) (hlen : len ≤ 1000000)
    (w0 w : World) (hn₀ : Below w0.heap.size w0 w) (hBn : Bn < w.heap.size) (hc : w.cell? ⟨Bn, 0, none⟩ = some (.slice a len cap)) (hb : Bs w0 a xs) :
    SeqStopsK F n Try.prog 45 #[.pointer (some ⟨Bn, 0, none⟩)] (fun x : W16 => #[Value.int .u16 x.1]) (KpB w0.heap.size Bn) (fun ys => ys = words hb.2 N) (fun pre => ∃ k, k ≤ N ∧ pre = words hb.2 k) N w := fun l J Jx W hW _ _ hY h0 => by
  have hc' := (hW.cell (p := ⟨Bn, 0, none⟩) hBn).trans hc
  have hB := hb.2
  rcases hb.1 with rfl | ⟨b, off, rfl, hcs⟩
  · obtain rfl : len = 0 := by simpa using hx.symm
    obtain rfl : N = 0 := by omega
    exact (words1_no F n h7 hro l Bn cap a J W hc' h0).mono fun e W' ⟨he, hj⟩ => ⟨he, .inl ⟨_, rfl, hj⟩⟩
  · rcases Nat.eq_zero_or_pos len with rfl | hpos
    · obtain rfl : N = 0 := by omega
      exact (words1_no F n h7 hro l Bn cap _ J W hc' h0).mono fun e W' ⟨he, hj⟩ => ⟨he, .inl ⟨_, rfl, hj⟩⟩
    · have hbl : b < w0.heap.size := cell_lt (hcs 0 (by omega))
      exact words1_in F n h7 hro hn l Bn w0.heap.size b off len cap N xs hx hN hN' hlen hbl J Jx hB hY W hc'
        (fun j hj => ((hn₀.trans (hW.mono hn₀.size)).cell (p := ⟨b, off + j, none⟩) hbl).trans (hcs j (by omega))) h0
end Go.Proofs.Ythmejokjbkkfbaa
