/- Contracts of package ip: what is wrong with a frame, first of all: without Alert. -/
import Derived.Test.YthmejokjbkkfbaaIe
namespace Go.Proofs.Ythmejokjbkkfbaa
set_option linter.unusedVariables false
open Go.RowKit

set_option maxHeartbeats 1000000 in
theorem iFault5_20 (b off n c : Nat) (xs : List Int) (w : World) (hx : xs.length = n) (hn : n ≤ 1000000) (hnc : n ≤ c) (h20 : 20 ≤ n) (h0 : xs.getD 0 0 = 69) (hb : Bs w (some ⟨b, off, none⟩) xs) (hH : 20 ≤ n) (h4 : ofs (xs.take 20) = 0) (h5 : ¬ formOk xs) :
    Calls Try.prog 23 #[.slice (some ⟨b, off, none⟩) n c] w fun e w' => e = .returned (.int .i64 2) ∧ Below w.heap.size w w' := by
  have d1 : decide ((20 : Int) ≤ (n : Int)) = true := decide_eq_true (by omega)
  have BOX := Lib.hid (Box.start w)
  have i0 : (0 : Int) < (n : Int) := by omega
  have d3 : decide ((20 : Int) ≤ (n : Int)) = true := decide_eq_true (by omega)
  have HT : Hid ((xs.take 20).length = 20) := Lib.hid (by rw [List.length_take, hx]; omega)
  have W4 : Hid ((ofs (xs.take 20) == 0) = true) := Lib.hid (by rw [h4]; rfl)
  have HH : Hid (hsz (al0 xs) ≤ n) := Lib.hid (by unfold al0; rw [h0]; exact hH)
  have HF : Hid (xs.getD 0 0 = 69 ∨ xs.getD 0 0 = 70) := Lib.hid (.inl h0)
  have W5 : Hid (decide (formOk xs) = false) := Lib.hid (decide_eq_false h5)
  have CELL : Hid (∀ W, Below w.heap.size w W → W.cell? ⟨b, off, none⟩ = some (.int .u8 69)) := Lib.hid (fun W hW => by rw [← h0]; exact bs_cell (bs_below hb hW) (k := 0) (by omega))
  have c1 := CELL.out _ BOX.out.2.2.1
  have HX := Lib.hid hx
  have HB := Lib.hid hb
  clear hx hb h0 h4 h5
  go_enter Try.func23, Try.ntmps23
  simp only [List.append_eq, List.cons_append, List.nil_append]
  go_wp2_with (first
    | (go_at_call 17; refine (iSize _ _ (by omega) (by omega)).mono ?_; rintro e w2 ⟨rfl, rfl⟩)
    | (go_at_call_of 33 (Value.bool true); refine (holds_yes _ _ _).mono ?_; rintro e w3 ⟨rfl, rfl⟩)
    | (go_at_call 34; refine (sWhole _ 20 c (xs.take 20) _ HT.out (by omega) (bs_take (bs_below HB.out BOX.out.2.2.1) 20)).mono ?_; rintro e w4 ⟨rfl, hb4⟩; have BOX4 := Lib.hid (BOX.out.keep hb4); clear hb4; have c4 := CELL.out _ BOX4.out.2.2.1; rw [W4.out])
    | (go_at_call 35; refine (iForm b off n c xs _ HX.out hn hnc h20 HH.out HF.out (bs_below HB.out BOX4.out.2.2.1)).mono ?_; rintro e w5 ⟨rfl, hb5⟩; have BOX5 := Lib.hid (BOX4.out.keep hb5); clear hb5; have c5 := CELL.out _ BOX5.out.2.2.1; rw [W5.out])
    | (go_at_call_of 33 (Value.bool false); refine (holds_no _ 0 _ _ ?_ ?_).mono ?_; exact BOX5.out.1; exact BOX5.out.2.1; rintro e w3 ⟨rfl, rfl⟩; have cN := World.cell?_setCell_same' _ ⟨w.heap.size, 0, none⟩ (.int .i64 2) (by rw [BOX5.out.1]; rfl)))
  go_ret
  exact ⟨rfl, BOX5.out.told _⟩
set_option maxHeartbeats 1000000 in
theorem iFault6_20 (b off n c : Nat) (xs : List Int) (w : World) (hx : xs.length = n) (hn : n ≤ 1000000) (hnc : n ≤ c) (h20 : 20 ≤ n) (h0 : xs.getD 0 0 = 69) (hb : Bs w (some ⟨b, off, none⟩) xs) (hH : 20 ≤ n) (h4 : ofs (xs.take 20) = 0) (h5 : formOk xs) (h6 : n < all0 xs) :
    Calls Try.prog 23 #[.slice (some ⟨b, off, none⟩) n c] w fun e w' => e = .returned (.int .i64 3) ∧ Below w.heap.size w w' := by
  have d1 : decide ((20 : Int) ≤ (n : Int)) = true := decide_eq_true (by omega)
  have BOX := Lib.hid (Box.start w)
  have i0 : (0 : Int) < (n : Int) := by omega
  have d3 : decide ((20 : Int) ≤ (n : Int)) = true := decide_eq_true (by omega)
  have HT : Hid ((xs.take 20).length = 20) := Lib.hid (by rw [List.length_take, hx]; omega)
  have W4 : Hid ((ofs (xs.take 20) == 0) = true) := Lib.hid (by rw [h4]; rfl)
  have HH : Hid (hsz (al0 xs) ≤ n) := Lib.hid (by unfold al0; rw [h0]; exact hH)
  have HF : Hid (xs.getD 0 0 = 69 ∨ xs.getD 0 0 = 70) := Lib.hid (.inl h0)
  have W5 : Hid (decide (formOk xs) = true) := Lib.hid (decide_eq_true h5)
  have ha : (all0 xs : Int) = num xs 2 := by unfold all0; have := num_bd hb.2 2; omega
  have hnb := num_bd hb.2 2
  have d6 : decide (num xs 2 ≤ (n : Int)) = false := decide_eq_false (by omega)
  have CELL : Hid (∀ W, Below w.heap.size w W → W.cell? ⟨b, off, none⟩ = some (.int .u8 69)) := Lib.hid (fun W hW => by rw [← h0]; exact bs_cell (bs_below hb hW) (k := 0) (by omega))
  have c1 := CELL.out _ BOX.out.2.2.1
  have HX := Lib.hid hx
  have HB := Lib.hid hb
  clear hx hb h0 h4 h5 ha h6
  go_enter Try.func23, Try.ntmps23
  simp only [List.append_eq, List.cons_append, List.nil_append]
  go_wp2_with (first
    | (go_at_call 17; refine (iSize _ _ (by omega) (by omega)).mono ?_; rintro e w2 ⟨rfl, rfl⟩)
    | (go_at_call_of 33 (Value.bool true); refine (holds_yes _ _ _).mono ?_; rintro e w3 ⟨rfl, rfl⟩)
    | (go_at_call 34; refine (sWhole _ 20 c (xs.take 20) _ HT.out (by omega) (bs_take (bs_below HB.out BOX.out.2.2.1) 20)).mono ?_; rintro e w4 ⟨rfl, hb4⟩; have BOX4 := Lib.hid (BOX.out.keep hb4); clear hb4; have c4 := CELL.out _ BOX4.out.2.2.1; rw [W4.out])
    | (go_at_call 35; refine (iForm b off n c xs _ HX.out hn hnc h20 HH.out HF.out (bs_below HB.out BOX4.out.2.2.1)).mono ?_; rintro e w5 ⟨rfl, hb5⟩; have BOX5 := Lib.hid (BOX4.out.keep hb5); clear hb5; have c5 := CELL.out _ BOX5.out.2.2.1; rw [W5.out])
    | (go_at_call 25; refine (iNum _ _ _ (xs.drop 2) _ (by rw [List.length_drop, HX.out]) (by omega) (bs_drop (bs_below HB.out BOX5.out.2.2.1) 2)).mono ?_; rintro e w6 ⟨rfl, q, rfl⟩; rw [num_drop]; have BOX6 := Lib.hid (BOX5.out.keep (bdrawn (Below.refl _ _) q)); have c6 := CELL.out _ BOX6.out.2.2.1)
    | (go_at_call_of 33 (Value.bool false); refine (holds_no _ 0 _ _ ?_ ?_).mono ?_; exact BOX6.out.1; exact BOX6.out.2.1; rintro e w3 ⟨rfl, rfl⟩; have cN := World.cell?_setCell_same' _ ⟨w.heap.size, 0, none⟩ (.int .i64 3) (by rw [BOX6.out.1]; rfl)))
  go_ret
  exact ⟨rfl, BOX6.out.told _⟩
set_option maxHeartbeats 1000000 in
theorem iFault7_20 (b off n c : Nat) (xs : List Int) (w : World) (hx : xs.length = n) (hn : n ≤ 1000000) (hnc : n ≤ c) (h20 : 20 ≤ n) (h0 : xs.getD 0 0 = 69) (hb : Bs w (some ⟨b, off, none⟩) xs) (hH : 20 ≤ n) (h4 : ofs (xs.take 20) = 0) (h5 : formOk xs) (h6 : all0 xs ≤ n) (h7 : putS (xs.take 20) 10 ≠ xs.take 20) :
    Calls Try.prog 23 #[.slice (some ⟨b, off, none⟩) n c] w fun e w' => e = .returned (.int .i64 4) ∧ Below w.heap.size w w' := by
  have d1 : decide ((20 : Int) ≤ (n : Int)) = true := decide_eq_true (by omega)
  have BOX := Lib.hid (Box.start w)
  have i0 : (0 : Int) < (n : Int) := by omega
  have d3 : decide ((20 : Int) ≤ (n : Int)) = true := decide_eq_true (by omega)
  have HT : Hid ((xs.take 20).length = 20) := Lib.hid (by rw [List.length_take, hx]; omega)
  have W4 : Hid ((ofs (xs.take 20) == 0) = true) := Lib.hid (by rw [h4]; rfl)
  have HH : Hid (hsz (al0 xs) ≤ n) := Lib.hid (by unfold al0; rw [h0]; exact hH)
  have HF : Hid (xs.getD 0 0 = 69 ∨ xs.getD 0 0 = 70) := Lib.hid (.inl h0)
  have W5 : Hid (decide (formOk xs) = true) := Lib.hid (decide_eq_true h5)
  have ha : (all0 xs : Int) = num xs 2 := by unfold all0; have := num_bd hb.2 2; omega
  have hnb := num_bd hb.2 2
  have d6 : decide (num xs 2 ≤ (n : Int)) = true := decide_eq_true (by omega)
  have W7 : Hid (decide (putS (xs.take 20) 10 = xs.take 20) = false) := Lib.hid (decide_eq_false h7)
  have CELL : Hid (∀ W, Below w.heap.size w W → W.cell? ⟨b, off, none⟩ = some (.int .u8 69)) := Lib.hid (fun W hW => by rw [← h0]; exact bs_cell (bs_below hb hW) (k := 0) (by omega))
  have c1 := CELL.out _ BOX.out.2.2.1
  have HX := Lib.hid hx
  have HB := Lib.hid hb
  clear hx hb h0 h4 h5 h7 ha h6
  go_enter Try.func23, Try.ntmps23
  simp only [List.append_eq, List.cons_append, List.nil_append]
  go_wp2_with (first
    | (go_at_call 17; refine (iSize _ _ (by omega) (by omega)).mono ?_; rintro e w2 ⟨rfl, rfl⟩)
    | (go_at_call_of 33 (Value.bool true); refine (holds_yes _ _ _).mono ?_; rintro e w3 ⟨rfl, rfl⟩)
    | (go_at_call 34; refine (sWhole _ 20 c (xs.take 20) _ HT.out (by omega) (bs_take (bs_below HB.out BOX.out.2.2.1) 20)).mono ?_; rintro e w4 ⟨rfl, hb4⟩; have BOX4 := Lib.hid (BOX.out.keep hb4); clear hb4; have c4 := CELL.out _ BOX4.out.2.2.1; rw [W4.out])
    | (go_at_call 35; refine (iForm b off n c xs _ HX.out hn hnc h20 HH.out HF.out (bs_below HB.out BOX4.out.2.2.1)).mono ?_; rintro e w5 ⟨rfl, hb5⟩; have BOX5 := Lib.hid (BOX4.out.keep hb5); clear hb5; have c5 := CELL.out _ BOX5.out.2.2.1; rw [W5.out])
    | (go_at_call 25; refine (iNum _ _ _ (xs.drop 2) _ (by rw [List.length_drop, HX.out]) (by omega) (bs_drop (bs_below HB.out BOX5.out.2.2.1) 2)).mono ?_; rintro e w6 ⟨rfl, q, rfl⟩; rw [num_drop]; have BOX6 := Lib.hid (BOX5.out.keep (bdrawn (Below.refl _ _) q)); have c6 := CELL.out _ BOX6.out.2.2.1)
    | (go_at_call 36; refine (iSummedQ _ 20 c (xs.take 20) _ HT.out (by omega) (by omega) (bs_take (bs_below HB.out BOX6.out.2.2.1) 20)).mono ?_; rintro e w7 ⟨rfl, hb7⟩; have BOX7 := Lib.hid (BOX6.out.keep hb7); clear hb7; have cN := BOX7.out.1; rw [W7.out])
    | (go_at_call_of 33 (Value.bool false); refine (holds_no _ 0 _ _ ?_ ?_).mono ?_; exact BOX7.out.1; exact BOX7.out.2.1; rintro e w3 ⟨rfl, rfl⟩; have cN := World.cell?_setCell_same' _ ⟨w.heap.size, 0, none⟩ (.int .i64 4) (by rw [BOX7.out.1]; rfl)))
  go_ret
  exact ⟨rfl, BOX7.out.told _⟩
set_option maxHeartbeats 1000000 in
theorem iFault8_20 (b off n c : Nat) (xs : List Int) (w : World) (hx : xs.length = n) (hn : n ≤ 1000000) (hnc : n ≤ c) (h20 : 20 ≤ n) (h0 : xs.getD 0 0 = 69) (hb : Bs w (some ⟨b, off, none⟩) xs) (hH : 20 ≤ n) (h4 : ofs (xs.take 20) = 0) (h5 : formOk xs) (h6 : all0 xs ≤ n) (h7 : putS (xs.take 20) 10 = xs.take 20) :
    Calls Try.prog 23 #[.slice (some ⟨b, off, none⟩) n c] w fun e w' => e = .returned (.int .i64 0) ∧ Below w.heap.size w w' := by
  have d1 : decide ((20 : Int) ≤ (n : Int)) = true := decide_eq_true (by omega)
  have BOX := Lib.hid (Box.start w)
  have i0 : (0 : Int) < (n : Int) := by omega
  have d3 : decide ((20 : Int) ≤ (n : Int)) = true := decide_eq_true (by omega)
  have HT : Hid ((xs.take 20).length = 20) := Lib.hid (by rw [List.length_take, hx]; omega)
  have W4 : Hid ((ofs (xs.take 20) == 0) = true) := Lib.hid (by rw [h4]; rfl)
  have HH : Hid (hsz (al0 xs) ≤ n) := Lib.hid (by unfold al0; rw [h0]; exact hH)
  have HF : Hid (xs.getD 0 0 = 69 ∨ xs.getD 0 0 = 70) := Lib.hid (.inl h0)
  have W5 : Hid (decide (formOk xs) = true) := Lib.hid (decide_eq_true h5)
  have ha : (all0 xs : Int) = num xs 2 := by unfold all0; have := num_bd hb.2 2; omega
  have hnb := num_bd hb.2 2
  have d6 : decide (num xs 2 ≤ (n : Int)) = true := decide_eq_true (by omega)
  have W7 : Hid (decide (putS (xs.take 20) 10 = xs.take 20) = true) := Lib.hid (decide_eq_true h7)
  have CELL : Hid (∀ W, Below w.heap.size w W → W.cell? ⟨b, off, none⟩ = some (.int .u8 69)) := Lib.hid (fun W hW => by rw [← h0]; exact bs_cell (bs_below hb hW) (k := 0) (by omega))
  have c1 := CELL.out _ BOX.out.2.2.1
  have HX := Lib.hid hx
  have HB := Lib.hid hb
  clear hx hb h0 h4 h5 h7 ha h6
  go_enter Try.func23, Try.ntmps23
  simp only [List.append_eq, List.cons_append, List.nil_append]
  go_wp2_with (first
    | (go_at_call 17; refine (iSize _ _ (by omega) (by omega)).mono ?_; rintro e w2 ⟨rfl, rfl⟩)
    | (go_at_call_of 33 (Value.bool true); refine (holds_yes _ _ _).mono ?_; rintro e w3 ⟨rfl, rfl⟩)
    | (go_at_call 34; refine (sWhole _ 20 c (xs.take 20) _ HT.out (by omega) (bs_take (bs_below HB.out BOX.out.2.2.1) 20)).mono ?_; rintro e w4 ⟨rfl, hb4⟩; have BOX4 := Lib.hid (BOX.out.keep hb4); clear hb4; have c4 := CELL.out _ BOX4.out.2.2.1; rw [W4.out])
    | (go_at_call 35; refine (iForm b off n c xs _ HX.out hn hnc h20 HH.out HF.out (bs_below HB.out BOX4.out.2.2.1)).mono ?_; rintro e w5 ⟨rfl, hb5⟩; have BOX5 := Lib.hid (BOX4.out.keep hb5); clear hb5; have c5 := CELL.out _ BOX5.out.2.2.1; rw [W5.out])
    | (go_at_call 25; refine (iNum _ _ _ (xs.drop 2) _ (by rw [List.length_drop, HX.out]) (by omega) (bs_drop (bs_below HB.out BOX5.out.2.2.1) 2)).mono ?_; rintro e w6 ⟨rfl, q, rfl⟩; rw [num_drop]; have BOX6 := Lib.hid (BOX5.out.keep (bdrawn (Below.refl _ _) q)); have c6 := CELL.out _ BOX6.out.2.2.1)
    | (go_at_call 36; refine (iSummedQ _ 20 c (xs.take 20) _ HT.out (by omega) (by omega) (bs_take (bs_below HB.out BOX6.out.2.2.1) 20)).mono ?_; rintro e w7 ⟨rfl, hb7⟩; have BOX7 := Lib.hid (BOX6.out.keep hb7); clear hb7; have cN := BOX7.out.1; rw [W7.out]))
  go_ret
  exact ⟨rfl, BOX7.out.2.2.1⟩
end Go.Proofs.Ythmejokjbkkfbaa
