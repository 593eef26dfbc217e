/- Contracts of package addr: the parts of a text, and its address. -/
import Derived.Test.YtkkemcfigjnbgaaDoorAb
import Derived.Deep.QuietTactic
import Derived.BigQuiet
import Derived.OneCell
namespace Go.Proofs.YtkkemcfigjnbgaaDoor
set_option linter.unusedVariables false
open Go.RowKit

/-- What cutting s at its first point comes to: a part, what is left, and is there any? -/
def CutOf (s p r : ByteArray) (ok : Bool) : Prop := sp s.data.toList = p.data.toList :: (if ok then sp r.data.toList else []) ∧ r.size ≤ s.size ∧ p.size ≤ s.size

set_option maxHeartbeats 400000 in
theorem aCut0 (s : ByteArray) (w : World) (hs : s.size ≤ 1000000) :
    Calls Tryd.prog 35 #[.string s, .string ⟨#[46]⟩] w fun e w' => ∃ p r ok n, CutOf s p r ok ∧ e = .returned (.tuple #[.string p, .string r, .bool ok]) ∧ w' = w.drewN n := by
  have key := sp_index s.data.toList
  rcases key with ⟨hi, hno⟩ | ⟨i, hi, hlt, hsp⟩
  · have HI := Lib.hid hi
    have hc : CutOf s s ByteArray.empty false := ⟨by rw [sp_plain _ hno]; rfl, Nat.zero_le _, Nat.le_refl _⟩
    have HC := Lib.hid hc
    clear hi hno hc
    go_enter Tryd.func35, Tryd.ntmps35
    go_wp2_with fail
    refine (Tryd.stringslite_Index_one s 46 _).mono ?_
    rintro e w' ⟨rfl, rfl⟩
    rw [HI.out]
    go_wp2_with fail
    go_ret3
    exact ⟨s, ByteArray.empty, false, 0, HC.out, rfl, rfl⟩
  · have hlt' : i < s.size := by simpa using hlt
    have hc : CutOf s (s.extract 0 i) (s.extract (i + 1) s.size) true := by
      refine ⟨?_, by simp, by simp; omega⟩
      rw [hsp, Lib.extract_to_end, Lib.extract_data]; simp
    have HI := Lib.hid hi
    have HC := Lib.hid hc
    clear hi hsp hc hlt
    go_enter Tryd.func35, Tryd.ntmps35
    go_wp2_with fail
    refine (Tryd.stringslite_Index_one s 46 _).mono ?_
    rintro e w' ⟨rfl, rfl⟩
    rw [HI.out]
    go_wp2_with fail
    go_quiet (fail)
    go_wp2_with fail
    go_ret3
    exact ⟨_, _, true, _, HC.out, rfl, rfl⟩

theorem aCut (s : ByteArray) (w : World) (hs : s.size ≤ 1000000) :
    Calls Tryd.prog 33 #[.string s, .string ⟨#[46]⟩] w fun e w' => ∃ p r ok n, CutOf s p r ok ∧ e = .returned (.tuple #[.string p, .string r, .bool ok]) ∧ w' = w.drewN n := by
  go_enter Tryd.func33, Tryd.ntmps33
  go_wp2_with fail
  refine (aCut0 s _ hs).mono ?_
  rintro e w' ⟨p, r, ok, n, hc, rfl, rfl⟩
  have HC := Lib.hid hc
  clear hc
  go_wp2_with fail
  go_ret3
  exact ⟨p, r, ok, n, HC.out, rfl, rfl⟩

/-- All but two blocks stay. -/
structure But2 (L S : Nat) (w w' : World) : Prop where
  os : w'.os = w.os
  tape : w'.tape = w.tape
  output : w'.output = w.output
  size : w'.heap.size = w.heap.size
  block : ∀ k, k ≠ L → k ≠ S → w'.heap[k]? = w.heap[k]?

theorem But2.below {L S B : Nat} {w w' : World} (h : But2 L S w w') (hL : B ≤ L) (hS : B ≤ S) : Below B w w' :=
  ⟨h.os, h.tape, h.output, by rw [h.size]; exact Nat.le_refl _, fun k hk => h.block k (by omega) (by omega)⟩

/-- What the closure 'next' has: what is left of the text, and is there any? -/
def Left (w : World) (L S : Nat) (l : Bool) (s : ByteArray) : Prop := w.heap[L]? = some (.cells #[.bool l] 4 (0, 0)) ∧ w.heap[S]? = some (.cells #[.string s] 9 (0, 0)) ∧ L ≠ S ∧ s.size ≤ 1000000
def rest (l : Bool) (s : ByteArray) : List (List UInt8) := if l then sp s.data.toList else []

theorem left_after {w : World} {L S : Nat} {l : Bool} {s r : ByteArray} {ok : Bool} (h : Left w L S l s) (n : Nat) (hr : r.size ≤ s.size) :
    Left (((w.drewN n).setCell ⟨S, 0, none⟩ (.string r)).setCell ⟨L, 0, none⟩ (.bool ok)) L S ok r ∧ But2 L S w (((w.drewN n).setCell ⟨S, 0, none⟩ (.string r)).setCell ⟨L, 0, none⟩ (.bool ok)) := by
  obtain ⟨hL, hS, hne, hz⟩ := h
  have hL' : (w.drewN n).heap[L]? = some (.cells #[.bool l] 4 (0, 0)) := hL
  have hS' : (w.drewN n).heap[S]? = some (.cells #[.string s] 9 (0, 0)) := hS
  have e1 := one_setCell (u := .string r) hS'
  have e2 : ((w.drewN n).setCell ⟨S, 0, none⟩ (.string r)).heap[L]? = some (.cells #[.bool l] 4 (0, 0)) := by rw [Below.heap_setCell _ _ _ _ (by simpa using hne)]; exact hL
  refine ⟨⟨one_setCell (u := .bool ok) e2, ?_, hne, by omega⟩, ⟨rfl, rfl, rfl, ?_, ?_⟩⟩
  · rw [Below.heap_setCell _ _ _ _ (by simpa using Ne.symm hne)]; exact e1
  · simp
  · intro k h1 h2
    rw [Below.heap_setCell _ _ _ _ (by simpa using h1), Below.heap_setCell _ _ _ _ (by simpa using h2)]; rfl

set_option maxHeartbeats 400000 in
theorem aNext (L S : Nat) (l : Bool) (s : ByteArray) (w : World) (h : Left w L S l s) :
    Calls Tryd.prog 32 #[.pointer (some ⟨L, 0, none⟩), .pointer (some ⟨S, 0, none⟩)] w fun e w' => ∃ p ok l' s', rest l s = (if ok then p.data.toList :: rest l' s' else []) ∧ p.size ≤ 1000000 ∧ Left w' L S l' s' ∧ But2 L S w w' ∧ e = .returned (.tuple #[.string p, .bool ok]) := by
  have c1 := cell_of_one h.1
  have c2 := cell_of_one h.2.1
  have f1 := free_of_one h.1
  have f2 := free_of_one h.2.1
  have hz := h.2.2.2
  have hne : ¬ L = S := h.2.2.1
  have hne' : ¬ S = L := fun e => hne e.symm
  have H := Lib.hid h
  clear h
  cases l
  · go_enter Tryd.func32, Tryd.ntmps32
    go_wp2_with fail
    go_ret2
    exact ⟨ByteArray.empty, false, false, s, rfl, Nat.zero_le _, H.out, ⟨rfl, rfl, rfl, rfl, fun _ _ _ => rfl⟩, rfl⟩
  · go_enter Tryd.func32, Tryd.ntmps32
    go_wp2_with fail
    refine (aCut s _ hz).mono ?_
    rintro e w' ⟨p, r, ok, n, hc, rfl, rfl⟩
    have HC := Lib.hid hc
    clear hc
    go_wp2_with fail
    go_ret2
    have hl := left_after (ok := ok) H.out n HC.out.2.1
    exact ⟨p, true, ok, r, by simpa [rest] using HC.out.1, by have := HC.out.2.2; omega, hl.1, hl.2, rfl⟩

/-! ### Parse -/
theorem no_of_length {s : List UInt8} (h : (sp s).length ≠ 4) : ∀ a, ¬ IsText s a := by
  rintro a ⟨h0, h1, rfl⟩
  rw [sp_txt h0 h1] at h
  exact h rfl
theorem part_of {s : List UInt8} {a : Int} (h : IsText s a) {p : List UInt8} (hp : p ∈ sp s) : ∃ x, 0 ≤ x ∧ x ≤ 255 ∧ p = dd x := by
  obtain ⟨h0, h1, rfl⟩ := h
  rw [sp_txt h0 h1] at hp
  simp only [parts4, List.mem_cons, List.not_mem_nil, or_false] at hp
  rcases hp with rfl | rfl | rfl | rfl
  · exact ⟨_, by omega, by omega, rfl⟩
  · exact ⟨_, by omega, by omega, rfl⟩
  · exact ⟨_, by omega, by omega, rfl⟩
  · exact ⟨_, by omega, by omega, rfl⟩
theorem no_of_part {s p : List UInt8} (hp : p ∈ sp s) (h : (numGo p 0 0).2 = 0 ∨ (numGo p 0 0).2 < p.length) : ∀ a, ¬ IsText s a := by
  intro a ha
  obtain ⟨x, h0, h1, rfl⟩ := part_of ha hp
  have e := numGo_d3 ⟨x.toNat, by omega⟩
  have l := (dd_len h0 h1).1
  simp only [] at e
  unfold dd at h l
  rw [e] at h
  simp only [] at h
  omega
theorem num_good {p : List UInt8} (h0 : ¬ (numGo p 0 0).2 = 0) (h1 : ¬ (numGo p 0 0).2 < p.length) : p = d3 (numGo p 0 0).1 ∧ (numGo p 0 0).1 ≤ 255 := by
  have h := numGo_all p 0 0 [] (.inl ⟨rfl, rfl, rfl⟩)
  exact ⟨by simpa using h.2.2 (by omega) (by omega), h.2.1⟩
theorem yes_of {s : List UInt8} {v0 v1 v2 v3 : Nat} (h0 : v0 ≤ 255) (h1 : v1 ≤ 255) (h2 : v2 ≤ 255) (h3 : v3 ≤ 255) (h : sp s = [d3 v0, d3 v1, d3 v2, d3 v3]) :
    IsText s ((((v0 : Int) * 256 + v1) * 256 + v2) * 256 + v3) := by
  refine ⟨by omega, by omega, ?_⟩
  unfold txt
  rw [four ⟨by omega, by omega⟩ ⟨by omega, by omega⟩ ⟨by omega, by omega⟩ ⟨by omega, by omega⟩, ← joinDot_sp s, h]
  rfl

def lenOf : Value → Nat | .slice _ n _ => n | _ => 0
/-- What stands at each round's head: the numbers that were read, the part at hand, and what is left. -/
def Seen (s : List UInt8) (vals : List Nat) (ok : Bool) (p : ByteArray) (l : Bool) (r : ByteArray) : Prop :=
  sp s = vals.map d3 ++ (if ok then p.data.toList :: rest l r else []) ∧ (∀ v ∈ vals, v ≤ 255) ∧ vals.length ≤ 4 ∧ p.size ≤ 1000000
def u8s (vals : List Nat) : List Value := vals.map fun (v : Nat) => Value.int .u8 (v : Int)
def InB (w W : World) (vals : List Nat) : Prop := W.ownsRow (w.heap.size + 2) 5 1 (.slice (some ⟨w.heap.size + 2, 0, none⟩) vals.length 4) vals.length (u8s vals)

theorem Tryd.infoU8 : (Tryd.prog.info? 5).map (fun i => (i.zero, i.size, i.bytes)) = some (some (.int .u8 0), 1, 1) := by kernel_rfl

theorem aParts (s : ByteArray) (w : World) :
    Calls Tryd.prog 29 #[.string s] w fun e w' => e = .returned (.func (Fn.func 32) #[] #[.pointer (some ⟨w.heap.size + 1, 0, none⟩), .pointer (some ⟨w.heap.size, 0, none⟩)]) ∧
      (w.alloc (.cells #[.string s] 9)).alloc (.cells #[.bool true] 4) = w' := by
  go_enter Tryd.func29, Tryd.ntmps29
  go_wp2
  go_ret
  exact ⟨rfl, rfl⟩

/-- The world in which the loop begins. -/
def W3 (w : World) (s : ByteArray) : World := ((w.alloc (.cells #[.string s] 9)).alloc (.cells #[.bool true] 4)).alloc (.cells #[.int .u8 0, .int .u8 0, .int .u8 0, .int .u8 0] 5)
theorem W3_size (w : World) (s : ByteArray) : (W3 w s).heap.size = w.heap.size + 3 := by simp [W3]
theorem W3_below (w : World) (s : ByteArray) : Below w.heap.size w (W3 w s) := (((Below.refl _ _).alloc (Nat.le_refl _) _).alloc (by simp) _).alloc (by simp; omega) _
theorem W3_at (w : World) (s : ByteArray) (h : s.size ≤ 1000000) : Left (W3 w s) (w.heap.size + 1) w.heap.size true s ∧ InB w (W3 w s) [] := by
  refine ⟨⟨?_, ?_, by omega, h⟩, by rfl, .inr ⟨w.heap.size + 2, 4, #[.int .u8 0, .int .u8 0, .int .u8 0, .int .u8 0], rfl, Nat.le_refl _, ?_, by simp, by simp [maxLen], by simp, by simp [u8s]⟩⟩
  · show ((((w.heap.push _).push _).push _)[w.heap.size + 1]?) = _
    simp only [Array.getElem?_push, Array.size_push]
    rw [if_neg (by omega), if_pos trivial]
  · show ((((w.heap.push _).push _).push _)[w.heap.size]?) = _
    simp only [Array.getElem?_push, Array.size_push]
    rw [if_neg (by omega), if_neg (by omega), if_pos trivial]
  · show ((((w.heap.push _).push _).push _)[w.heap.size + 2]?) = _
    simp only [Array.getElem?_push, Array.size_push]
    rw [if_pos trivial]

/-- The bytes stay where only the closure's own two variables are written. -/
theorem inB_but2 {w W W' : World} {vals : List Nat} (h : InB w W vals) (hb : But2 (w.heap.size + 1) w.heap.size W W') : InB w W' vals := by
  obtain ⟨h1, h2⟩ := h
  refine ⟨h1, ?_⟩
  rcases h2 with h2 | ⟨g, cap, cur, e, hg, hh, r⟩
  · exact .inl h2
  · refine .inr ⟨g, cap, cur, e, hg, ?_, r⟩
    rw [hb.block g (by omega) (by omega)]; exact hh

theorem bad_end {s : List UInt8} (h : ∀ a, ¬ IsText s a) : Ending.returned (Value.tuple #[.int .u32 0, .int .i64 2]) = Ending.returned (Value.tuple #[.int .u32 (pv s), .int .i64 (pe s)]) := by
  rw [(p_no h).1, (p_no h).2]
theorem good_end {s : List UInt8} {v0 v1 v2 v3 : Nat} (h0 : v0 ≤ 255) (h1 : v1 ≤ 255) (h2 : v2 ≤ 255) (h3 : v3 ≤ 255) (h : sp s = [v0, v1, v2, v3].map d3) :
    Ending.returned (Value.tuple #[.int .u32 (ofv [(v0 : Int), v1, v2, v3]), .int .i64 (ofe 4)]) = Ending.returned (Value.tuple #[.int .u32 (pv s), .int .i64 (pe s)]) := by
  have hy := p_yes (yes_of h0 h1 h2 h3 h)
  rw [hy.1, hy.2]; rfl
theorem bs_of {w W : World} {v0 v1 v2 v3 : Nat} (h : InB w W [v0, v1, v2, v3]) (hv : ∀ v ∈ [v0, v1, v2, v3], v ≤ 255) : Bs W (some ⟨w.heap.size + 2, 0, none⟩) [(v0 : Int), v1, v2, v3] := by
  refine ⟨.inr ⟨_, _, rfl, ?_⟩, ?_⟩
  · intro k hk
    rw [Nat.zero_add, World.ownsRow.cellAt h k (by simpa using hk)]
    match k, hk with
    | 0, _ => rfl
    | 1, _ => rfl
    | 2, _ => rfl
    | 3, _ => rfl
  · intro k hk
    simp only [List.mem_cons, List.not_mem_nil, or_false, forall_eq_or_imp, forall_eq] at hv
    match k, hk with
    | 0, _ => simp; omega
    | 1, _ => simp; omega
    | 2, _ => simp; omega
    | 3, _ => simp; omega
theorem left_grown {w W1 W2 : World} {L S : Nat} {l : Bool} {s : ByteArray} {row : Option Nat} (h : Left w L S l s) (h1 : w.grownBy W1 none) (h2 : W1.grownBy W2 row) (hr : row ≠ some L ∧ row ≠ some S) : Left W2 L S l s := by
  obtain ⟨hL, hS, hne, hz⟩ := h
  have lL := lt_of_block hL
  have lS := lt_of_block hS
  have e1 := h1.size
  refine ⟨?_, ?_, hne, hz⟩
  · rw [h2.block L (by omega) (by simpa using hr.1.symm), h1.block L lL (by simp)]; exact hL
  · rw [h2.block S (by omega) (by simpa using hr.2.symm), h1.block S lS (by simp)]; exact hS
theorem inB_snoc {w W : World} {vals : List Nat} {n : Nat} (h : W.ownsRow (w.heap.size + 2) 5 1 (.slice (some ⟨w.heap.size + 2, 0, none⟩) (vals.length + 1) 4) (vals.length + 1) (u8s vals ++ [.int .u8 (n : Int)])) : InB w W (vals ++ [n]) := by
  unfold InB
  rw [show u8s (vals ++ [n]) = u8s vals ++ [.int .u8 (n : Int)] by simp [u8s], List.length_append]
  exact h

set_option maxHeartbeats 4000000 in
theorem aParse (s : ByteArray) (w : World) (hs : s.size ≤ 1000000) :
    Calls Tryd.prog 22 #[.string s] w fun e w' => e = .returned (.tuple #[.int .u32 (pv s.data.toList), .int .i64 (pe s.data.toList)]) ∧ Below w.heap.size w w' := by
  have hmk : ∀ w, (Instr.makeSlice 27 (.int .i64 0) (.int .i64 4)).run Tryd.prog w = .ok (.slice (some ⟨w.heap.size, 0, none⟩) 0 4) (w.alloc (.cells #[.int .u8 0, .int .u8 0, .int .u8 0, .int .u8 0] 5)) := fun _ => by kernel_rfl
  obtain ⟨i0, hi, hz0, hz1, hz2⟩ := info_parts Tryd.infoU8
  have HI := Lib.hid hi
  have HZ := Lib.hid hz1
  clear hi hz0 hz1 hz2
  obtain ⟨hL0, hB0⟩ := W3_at w s hs
  have HS := Lib.hid hs
  clear hs
  go_enter Tryd.func22, Tryd.ntmps22
  go_wp2_with (first | (go_at_call 29; refine (aParts _ _).mono ?_; rintro e w' ⟨rfl, rfl⟩))
  show Calls _ _ _ (W3 w s) _
  refine (aNext (w.heap.size + 1) w.heap.size true s (W3 w s) hL0).mono ?_
  rintro e W1 ⟨p, ok, l, r, hrest, hp, hL, hbut, rfl⟩
  have hInv : Seen s.data.toList [] ok p l r ∧ Left W1 (w.heap.size + 1) w.heap.size l r ∧ InB w W1 [] ∧ Below w.heap.size w W1 ∧ w.heap.size + 3 ≤ W1.heap.size :=
    ⟨⟨by simpa [rest] using hrest, by simp, by simp, hp⟩, hL, inB_but2 hB0 hbut, (W3_below w s).trans (hbut.below (by omega) (Nat.le_refl _)), by rw [hbut.size, W3_size]; exact Nat.le_refl _⟩
  have HInv := Lib.hid hInv
  clear hInv hrest hp hL hbut hL0 hB0
  go_wp2_with fail
  go_loopw [5, 6, 7] (fun b part okv wr => ∃ (vals : List Nat) (p r : ByteArray) (ok l : Bool), b = .slice (some ⟨w.heap.size + 2, 0, none⟩) vals.length 4 ∧ part = .string p ∧ okv = .bool ok ∧
      Hid (Seen s.data.toList vals ok p l r ∧ Left wr (w.heap.size + 1) w.heap.size l r ∧ InB w wr vals ∧ Below w.heap.size w wr ∧ w.heap.size + 3 ≤ wr.heap.size)) (fun b _ _ _ => 4 - lenOf b)
  case atStart => exact ⟨[], p, r, ok, l, rfl, rfl, rfl, HInv⟩
  case round =>
    clear HInv
    obtain ⟨vals, p, r, ok, l, rfl, rfl, rfl, HInv⟩ := hrel
    cases ok
    · have hd := HInv.out.1.1
      simp only [Bool.false_eq_true, if_false, List.append_nil] at hd
      have hv := HInv.out.1.2.2.1
      by_cases h4 : vals.length < 4
      · have hbad := bad_end (no_of_length (s := s.data.toList) (by rw [hd, List.length_map]; omega))
        have HBAD := Lib.hid hbad
        clear hd hbad
        go_wp2_with fail
        go_ret2
        exact ⟨HBAD.out, HInv.out.2.2.2.1⟩
      · have h4' : vals.length = 4 := by omega
        match vals, h4' with
        | [v0, v1, v2, v3], _ =>
          have hg := good_end (s := s.data.toList) (HInv.out.1.2.1 v0 (by simp)) (HInv.out.1.2.1 v1 (by simp)) (HInv.out.1.2.1 v2 (by simp)) (HInv.out.1.2.1 v3 (by simp)) hd
          have HG := Lib.hid hg
          have hB := bs_of HInv.out.2.2.1 HInv.out.1.2.1
          have HB := Lib.hid hB
          clear hd hg hB hv h4
          go_wp2_with fail
          refine (aOf _ 4 4 [(v0 : Int), v1, v2, v3] _ rfl (by omega) HB.out).mono ?_
          rintro e w' ⟨rfl, rfl⟩
          go_wp2_with fail
          go_ret2
          exact ⟨HG.out, HInv.out.2.2.2.1⟩
    · have hps : p.size ≤ 9223372036854775807 := by have := HInv.out.1.2.2.2; omega
      have hv4 : vals.length ≤ 4 := HInv.out.1.2.2.1
      have hmem : p.data.toList ∈ sp s.data.toList := by rw [HInv.out.1.1]; simp
      obtain ⟨N, hN⟩ : ∃ N, N = numGo p.data.toList 0 0 := ⟨_, rfl⟩
      have HM := Lib.hid hmem
      clear hmem
      go_wp2_with fail
      refine (aNumber p _ hps).mono ?_
      rintro e w' ⟨rfl, rfl⟩
      rw [← hN]
      have HN := Lib.hid hN
      clear hN
      by_cases h0 : N.2 = 0
      · have h0' : ((N.2 : Int) == 0) = true := by rw [beq_iff_eq]; omega
        have hbad := bad_end (no_of_part HM.out (.inl (by rw [← HN.out]; exact h0)))
        have HBAD := Lib.hid hbad
        have H0 := Lib.hid h0
        clear h0 hbad
        go_wp2_with fail
        go_ret2
        exact ⟨HBAD.out, HInv.out.2.2.2.1⟩
      · have h0' : ((N.2 : Int) == 0) = false := by rw [beq_eq_false_iff_ne]; omega
        by_cases h1 : N.2 < p.size
        · have hbad := bad_end (no_of_part HM.out (.inr (by rw [← HN.out]; simpa using h1)))
          have HBAD := Lib.hid hbad
          clear h0 hbad
          go_wp2_with fail
          go_ret2
          exact ⟨HBAD.out, HInv.out.2.2.2.1⟩
        · by_cases h4 : vals.length = 4
          · have hbad := bad_end (no_of_length (s := s.data.toList) (by rw [HInv.out.1.1]; simp [h4]))
            have HBAD := Lib.hid hbad
            have h4' : ((vals.length : Int) == 4) = true := by rw [beq_iff_eq]; omega
            have H4 := Lib.hid h4
            clear h0 hbad h4
            go_wp2_with fail
            go_ret2
            exact ⟨HBAD.out, HInv.out.2.2.2.1⟩
          · have h4' : ((vals.length : Int) == 4) = false := by rw [beq_eq_false_iff_ne]; omega
            have hlt4 : vals.length < 4 := by omega
            have hgood := num_good (p := p.data.toList) (by rw [← HN.out]; exact h0) (by rw [← HN.out]; simpa using h1)
            rw [← HN.out] at hgood
            have HGOOD := Lib.hid hgood
            clear hgood h0 h4
            go_wp2_with (at_builtin; refine wpList_append_fits _ rfl _ _ 27 rfl (w.heap.size + 2) 5 i0 1 Tryd.underlying27 HI.out HZ.out (w.heap.size + 2) vals.length 4 (u8s vals) rfl (HInv.out.2.2.1.alloc _) ⟨wr.heap.size, 0, none⟩ 1 1 [.int .u8 (N.1 : Nat)] rfl rfl ?c1 ?c2 ?c3 ?_)
            case c1 =>
              intro j u hj
              match j, hj with
              | 0, hj => simp at hj; subst hj; simp [Addr.add]
            case c2 => intro u hu; simp at hu; subst hu; rfl
            case c3 => omega
            intro w2 hown2 hgr2
            have hL2 := left_grown HInv.out.2.1 (World.grownBy_alloc wr (.cells #[.int .u8 (N.1 : Nat)] 5) none) hgr2 ⟨by simp, by simp⟩
            have hb2 : Below w.heap.size w w2 := (HInv.out.2.2.2.1.alloc (by have := HInv.out.2.2.2.2; omega) _).grown hgr2 (by have := HInv.out.2.2.2.2; simp; omega) (by intro k hk; simp at hk; omega)
            have HS2 := Lib.hid hgr2.size
            have HO2 := Lib.hid hown2
            have HB2 := Lib.hid hb2
            clear hown2 hgr2 hb2
            go_wp2_with fail
            refine (aNext _ _ _ _ _ hL2).mono ?_
            rintro e W1 ⟨p', ok', l', r', hrest, hp', hL', hbut, rfl⟩
            have hInv : Seen s.data.toList (vals ++ [N.1]) ok' p' l' r' ∧ Left W1 (w.heap.size + 1) w.heap.size l' r' ∧ InB w W1 (vals ++ [N.1]) ∧ Below w.heap.size w W1 ∧ w.heap.size + 3 ≤ W1.heap.size := by
              refine ⟨⟨?_, ?_, by simp; omega, hp'⟩, hL', inB_but2 (inB_snoc HO2.out) hbut, HB2.out.trans (hbut.below (by omega) (Nat.le_refl _)), ?_⟩
              · rw [HInv.out.1.1, if_pos rfl, hrest, HGOOD.out.1]; simp
              · intro v hv
                rcases List.mem_append.1 hv with hv | hv
                · exact HInv.out.1.2.1 v hv
                · simp at hv; rw [hv]; exact HGOOD.out.2
              · have := HS2.out; have := HInv.out.2.2.2.2; have := hbut.size; simp at *; omega
            have HInv2 := Lib.hid hInv
            clear hInv hrest hp' hL' hbut hL2
            go_wp2_with fail
            go_roundw
            case rel => exact ⟨vals ++ [N.1], p', r', ok', l', by simp, rfl, rfl, HInv2⟩
            case measure => simp [lenOf]; omega
end Go.Proofs.YtkkemcfigjnbgaaDoor
