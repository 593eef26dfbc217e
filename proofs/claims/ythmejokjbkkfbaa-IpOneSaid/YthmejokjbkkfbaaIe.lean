/- Contracts of package ip: what is wrong with a frame, first of all. -/
import Derived.Test.YthmejokjbkkfbaaId
namespace Go.Proofs.Ythmejokjbkkfbaa
set_option linter.unusedVariables false
open Go.RowKit

/-- The variable that is told holds 0; what was there is as it was. -/
def Box (w W : World) : Prop := W.cell? ⟨w.heap.size, 0, none⟩ = some (.int .i64 0) ∧ W.frozen? ⟨w.heap.size, 0, none⟩ = false ∧ Below w.heap.size w W ∧ w.heap.size < W.heap.size
theorem Box.start (w : World) : Box w (w.alloc (.cells #[.int .i64 0] 29)) :=
  ⟨by rw [World.cell?_alloc_new]; rfl, by simp, (Below.refl _ w).alloc (Nat.le_refl _) _, by simp⟩
theorem Box.keep {w W W' : World} (h : Box w W) (hb : Below W.heap.size W W') : Box w W' := by
  obtain ⟨h1, h2, h3, h4⟩ := h
  exact ⟨(hb.cell (p := ⟨w.heap.size, 0, none⟩) h4).trans h1, (hb.frozen (p := ⟨w.heap.size, 0, none⟩) h4).trans h2, h3.trans (hb.mono h3.size), Nat.lt_of_lt_of_le h4 hb.size⟩
theorem Box.told {w W : World} (h : Box w W) (v : Value) : Below w.heap.size w (W.setCell ⟨w.heap.size, 0, none⟩ v) := h.2.2.1.setCell (p := ⟨w.heap.size, 0, none⟩) (Nat.le_refl _) _
theorem iFault1 (a : Option Addr) (n c : Nat) (w : World) (h : n < 20) :
    Calls Try.prog 23 #[.slice a n c] w fun e w' => e = .returned (.int .i64 3) ∧ Below w.heap.size w w' := by
  have d1 : decide ((20 : Int) ≤ (n : Int)) = false := decide_eq_false (by omega)
  have BOX := Lib.hid (Box.start w)
  clear h
  go_enter Try.func23, Try.ntmps23
  simp only [List.append_eq, List.cons_append, List.nil_append]
  go_wp2_with (first
    | (go_at_call 17; refine (iSize _ _ (by omega) (by omega)).mono ?_; rintro e w2 ⟨rfl, rfl⟩)
    | (go_at_call_of 33 (Value.bool false); refine (holds_no _ 0 _ _ ?_ ?_).mono ?_; exact BOX.out.1; exact BOX.out.2.1; rintro e w3 ⟨rfl, rfl⟩))
  go_ret
  exact ⟨rfl, (Below.refl _ w).alloc (Nat.le_refl _) _⟩
theorem iFault2 (b off n c : Nat) (xs : List Int) (w : World) (hx : xs.length = n) (h20 : 20 ≤ n) (hb : Bs w (some ⟨b, off, none⟩) xs) (h69 : xs.getD 0 0 ≠ 69) (h70 : xs.getD 0 0 ≠ 70) :
    Calls Try.prog 23 #[.slice (some ⟨b, off, none⟩) n c] w fun e w' => e = .returned (.int .i64 2) ∧ Below w.heap.size w w' := by
  have d1 : decide ((20 : Int) ≤ (n : Int)) = true := decide_eq_true (by omega)
  have BOX := Lib.hid (Box.start w)
  have i0 : (0 : Int) < (n : Int) := by omega
  have e69 : (xs.getD 0 0 == 69) = false := by rw [beq_eq_false_iff_ne]; exact h69
  have e70 : (xs.getD 0 0 == 70) = false := by rw [beq_eq_false_iff_ne]; exact h70
  have c1 : (w.alloc (.cells #[.int .i64 0] 29)).cell? ⟨b, off, none⟩ = some (.int .u8 (xs.getD 0 0)) := bs_cell (bs_below hb BOX.out.2.2.1) (k := 0) (by omega)
  clear hx hb h69 h70
  generalize xs.getD 0 0 = x at *
  go_enter Try.func23, Try.ntmps23
  simp only [List.append_eq, List.cons_append, List.nil_append]
  go_wp2_with (first
    | (go_at_call 17; refine (iSize _ _ (by omega) (by omega)).mono ?_; rintro e w2 ⟨rfl, rfl⟩)
    | (go_at_call_of 33 (Value.bool true); refine (holds_yes _ _ _).mono ?_; rintro e w3 ⟨rfl, rfl⟩)
    | (go_at_call_of 33 (Value.bool false); refine (holds_no _ 0 _ _ ?_ ?_).mono ?_; exact BOX.out.1; exact BOX.out.2.1; rintro e w3 ⟨rfl, rfl⟩))
  go_ret
  exact ⟨rfl, (Below.refl _ w).alloc (Nat.le_refl _) _⟩
set_option maxHeartbeats 1000000 in
theorem iFault3_24 (b off n c : Nat) (xs : List Int) (w : World) (hx : xs.length = n) (hn : n ≤ 1000000) (hnc : n ≤ c) (h20 : 20 ≤ n) (h0 : xs.getD 0 0 = 70) (hb : Bs w (some ⟨b, off, none⟩) xs) (hH : n < 24) :
    Calls Try.prog 23 #[.slice (some ⟨b, off, none⟩) n c] w fun e w' => e = .returned (.int .i64 3) ∧ Below w.heap.size w w' := by
  have d1 : decide ((20 : Int) ≤ (n : Int)) = true := decide_eq_true (by omega)
  have BOX := Lib.hid (Box.start w)
  have i0 : (0 : Int) < (n : Int) := by omega
  have d3 : decide ((24 : Int) ≤ (n : Int)) = false := decide_eq_false (by omega)
  have CELL : Hid (∀ W, Below w.heap.size w W → W.cell? ⟨b, off, none⟩ = some (.int .u8 70)) := Lib.hid (fun W hW => by rw [← h0]; exact bs_cell (bs_below hb hW) (k := 0) (by omega))
  have c1 := CELL.out _ BOX.out.2.2.1
  have HX := Lib.hid hx
  have HB := Lib.hid hb
  clear hx hb h0
  go_enter Try.func23, Try.ntmps23
  simp only [List.append_eq, List.cons_append, List.nil_append]
  go_wp2_with (first
    | (go_at_call 17; refine (iSize _ _ (by omega) (by omega)).mono ?_; rintro e w2 ⟨rfl, rfl⟩)
    | (go_at_call_of 33 (Value.bool true); refine (holds_yes _ _ _).mono ?_; rintro e w3 ⟨rfl, rfl⟩)
    | (go_at_call_of 33 (Value.bool false); refine (holds_no _ 0 _ _ ?_ ?_).mono ?_; exact BOX.out.1; exact BOX.out.2.1; rintro e w3 ⟨rfl, rfl⟩))
  go_ret
  exact ⟨rfl, (Below.refl _ w).alloc (Nat.le_refl _) _⟩
set_option maxHeartbeats 1000000 in
theorem iFault4_20 (b off n c : Nat) (xs : List Int) (w : World) (hx : xs.length = n) (hn : n ≤ 1000000) (hnc : n ≤ c) (h20 : 20 ≤ n) (h0 : xs.getD 0 0 = 69) (hb : Bs w (some ⟨b, off, none⟩) xs) (hH : 20 ≤ n) (h4 : ofs (xs.take 20) ≠ 0) :
    Calls Try.prog 23 #[.slice (some ⟨b, off, none⟩) n c] w fun e w' => e = .returned (.int .i64 4) ∧ Below w.heap.size w w' := by
  have d1 : decide ((20 : Int) ≤ (n : Int)) = true := decide_eq_true (by omega)
  have BOX := Lib.hid (Box.start w)
  have i0 : (0 : Int) < (n : Int) := by omega
  have d3 : decide ((20 : Int) ≤ (n : Int)) = true := decide_eq_true (by omega)
  have HT : Hid ((xs.take 20).length = 20) := Lib.hid (by rw [List.length_take, hx]; omega)
  have W4 : Hid ((ofs (xs.take 20) == 0) = false) := Lib.hid (by rw [beq_eq_false_iff_ne]; exact h4)
  have CELL : Hid (∀ W, Below w.heap.size w W → W.cell? ⟨b, off, none⟩ = some (.int .u8 69)) := Lib.hid (fun W hW => by rw [← h0]; exact bs_cell (bs_below hb hW) (k := 0) (by omega))
  have c1 := CELL.out _ BOX.out.2.2.1
  have HX := Lib.hid hx
  have HB := Lib.hid hb
  clear hx hb h0 h4
  go_enter Try.func23, Try.ntmps23
  simp only [List.append_eq, List.cons_append, List.nil_append]
  go_wp2_with (first
    | (go_at_call 17; refine (iSize _ _ (by omega) (by omega)).mono ?_; rintro e w2 ⟨rfl, rfl⟩)
    | (go_at_call_of 33 (Value.bool true); refine (holds_yes _ _ _).mono ?_; rintro e w3 ⟨rfl, rfl⟩)
    | (go_at_call 34; refine (sWhole _ 20 c (xs.take 20) _ HT.out (by omega) (bs_take (bs_below HB.out BOX.out.2.2.1) 20)).mono ?_; rintro e w4 ⟨rfl, hb4⟩; have BOX4 := Lib.hid (BOX.out.keep hb4); clear hb4; have c4 := CELL.out _ BOX4.out.2.2.1; rw [W4.out])
    | (go_at_call_of 33 (Value.bool false); refine (holds_no _ 0 _ _ ?_ ?_).mono ?_; exact BOX4.out.1; exact BOX4.out.2.1; rintro e w3 ⟨rfl, rfl⟩; have cN := World.cell?_setCell_same' _ ⟨w.heap.size, 0, none⟩ (.int .i64 4) (by rw [BOX4.out.1]; rfl)))
  go_ret
  exact ⟨rfl, BOX4.out.told _⟩
set_option maxHeartbeats 1000000 in
theorem iFault4_24 (b off n c : Nat) (xs : List Int) (w : World) (hx : xs.length = n) (hn : n ≤ 1000000) (hnc : n ≤ c) (h20 : 20 ≤ n) (h0 : xs.getD 0 0 = 70) (hb : Bs w (some ⟨b, off, none⟩) xs) (hH : 24 ≤ n) (h4 : ofs (xs.take 24) ≠ 0) :
    Calls Try.prog 23 #[.slice (some ⟨b, off, none⟩) n c] w fun e w' => e = .returned (.int .i64 4) ∧ Below w.heap.size w w' := by
  have d1 : decide ((20 : Int) ≤ (n : Int)) = true := decide_eq_true (by omega)
  have BOX := Lib.hid (Box.start w)
  have i0 : (0 : Int) < (n : Int) := by omega
  have d3 : decide ((24 : Int) ≤ (n : Int)) = true := decide_eq_true (by omega)
  have HT : Hid ((xs.take 24).length = 24) := Lib.hid (by rw [List.length_take, hx]; omega)
  have W4 : Hid ((ofs (xs.take 24) == 0) = false) := Lib.hid (by rw [beq_eq_false_iff_ne]; exact h4)
  have CELL : Hid (∀ W, Below w.heap.size w W → W.cell? ⟨b, off, none⟩ = some (.int .u8 70)) := Lib.hid (fun W hW => by rw [← h0]; exact bs_cell (bs_below hb hW) (k := 0) (by omega))
  have c1 := CELL.out _ BOX.out.2.2.1
  have HX := Lib.hid hx
  have HB := Lib.hid hb
  clear hx hb h0 h4
  go_enter Try.func23, Try.ntmps23
  simp only [List.append_eq, List.cons_append, List.nil_append]
  go_wp2_with (first
    | (go_at_call 17; refine (iSize _ _ (by omega) (by omega)).mono ?_; rintro e w2 ⟨rfl, rfl⟩)
    | (go_at_call_of 33 (Value.bool true); refine (holds_yes _ _ _).mono ?_; rintro e w3 ⟨rfl, rfl⟩)
    | (go_at_call 34; refine (sWhole _ 24 c (xs.take 24) _ HT.out (by omega) (bs_take (bs_below HB.out BOX.out.2.2.1) 24)).mono ?_; rintro e w4 ⟨rfl, hb4⟩; have BOX4 := Lib.hid (BOX.out.keep hb4); clear hb4; have c4 := CELL.out _ BOX4.out.2.2.1; rw [W4.out])
    | (go_at_call_of 33 (Value.bool false); refine (holds_no _ 0 _ _ ?_ ?_).mono ?_; exact BOX4.out.1; exact BOX4.out.2.1; rintro e w3 ⟨rfl, rfl⟩; have cN := World.cell?_setCell_same' _ ⟨w.heap.size, 0, none⟩ (.int .i64 4) (by rw [BOX4.out.1]; rfl)))
  go_ret
  exact ⟨rfl, BOX4.out.told _⟩
end Go.Proofs.Ythmejokjbkkfbaa
