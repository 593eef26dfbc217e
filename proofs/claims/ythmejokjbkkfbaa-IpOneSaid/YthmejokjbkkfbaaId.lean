/- Contracts of package ip: what is wrong with a frame. -/
import Derived.Test.YthmejokjbkkfbaaIc
namespace Go.Proofs.Ythmejokjbkkfbaa
set_option linter.unusedVariables false
open Go.RowKit

theorem getD_drop (xs : List Int) (k j : Nat) : (xs.drop k).getD j 0 = xs.getD (k + j) 0 := by
  rw [List.getD_eq_getElem?_getD, List.getElem?_drop, ← List.getD_eq_getElem?_getD]
theorem num_drop (xs : List Int) (k : Nat) : num (xs.drop k) 0 = num xs k := by
  unfold num; rw [getD_drop, getD_drop, Nat.add_zero]
theorem bs_take {w : World} {a : Option Addr} {xs : List Int} (h : Bs w a xs) (k : Nat) : Bs w a (xs.take k) := by
  have hg : ∀ j, j < (xs.take k).length → (xs.take k).getD j 0 = xs.getD j 0 := fun j hj => by
    rw [List.length_take] at hj
    rw [List.getD_eq_getElem?_getD, List.getElem?_take_of_lt (by omega), ← List.getD_eq_getElem?_getD]
  refine ⟨?_, fun j hj => by rw [hg j hj]; exact h.2 j (by rw [List.length_take] at hj; omega)⟩
  rcases h.1 with rfl | ⟨b, off, e, hc⟩
  · exact .inl (by simp)
  · exact .inr ⟨b, off, e, fun j hj => by rw [hg j hj]; exact hc j (by rw [List.length_take] at hj; omega)⟩
theorem bs_drop {w : World} {b off : Nat} {xs : List Int} (h : Bs w (some ⟨b, off, none⟩) xs) (k : Nat) : Bs w (some ⟨b, off + k, none⟩) (xs.drop k) := by
  refine ⟨?_, fun j hj => by rw [getD_drop]; exact h.2 _ (by rw [List.length_drop] at hj; omega)⟩
  rcases h.1 with rfl | ⟨b', off', e, hc⟩
  · exact .inl (by simp)
  · cases e
    exact .inr ⟨b, off + k, rfl, fun j hj => by rw [getD_drop, Nat.add_assoc]; exact hc _ (by rw [List.length_drop] at hj; omega)⟩
theorem bs_cell {w : World} {b off : Nat} {xs : List Int} (h : Bs w (some ⟨b, off, none⟩) xs) {k : Nat} (hk : k < xs.length) : w.cell? ⟨b, off + k, none⟩ = some (.int .u8 (xs.getD k 0)) := by
  rcases h.1 with rfl | ⟨b', off', e, hc⟩
  · simp at hk
  · cases e; exact hc k hk
theorem bs_at {w : World} {a : Option Addr} {xs : List Int} (h : Bs w a xs) (hl : 0 < xs.length) : ∃ b off, a = some ⟨b, off, none⟩ := by
  rcases h.1 with rfl | ⟨b, off, e, _⟩
  · simp at hl
  · exact ⟨b, off, e⟩
theorem isB_of {w : World} {a : Option Addr} {xs : List Int} (h : Bs w a xs) : IsB xs := h.2

theorem holds_yes (x : Int) (B : Nat) (w : World) :
    Calls Try.prog 33 #[.bool true, .int .i64 x, .pointer (some ⟨B, 0, none⟩)] w fun e w' => e = .returned (.bool true) ∧ w = w' := by
  go_enter Try.func33, Try.ntmps33
  go_wp2
  go_ret
  exact ⟨rfl, rfl⟩
theorem holds_no (x y : Int) (B : Nat) (w : World) (hc : w.cell? ⟨B, 0, none⟩ = some (.int .i64 y)) (hf : w.frozen? ⟨B, 0, none⟩ = false) :
    Calls Try.prog 33 #[.bool false, .int .i64 x, .pointer (some ⟨B, 0, none⟩)] w fun e w' => e = .returned (.bool false) ∧ w.setCell ⟨B, 0, none⟩ (.int .i64 x) = w' := by
  go_enter Try.func33, Try.ntmps33
  go_wp2
  go_ret
  exact ⟨rfl, rfl⟩
theorem iSummedQ (a : Option Addr) (n c : Nat) (xs : List Int) (w : World) (hx : xs.length = n) (hn : n ≤ 1000000) (h12 : 12 ≤ n) (hb : Bs w a xs) :
    Calls Try.prog 36 #[.slice a n c] w fun e w' => e = .returned (.bool (decide (putS xs 10 = xs))) ∧ Below w.heap.size w w' := by
  have HX := Lib.hid hx
  have HB := Lib.hid hb
  clear hx hb
  go_enter Try.func36, Try.ntmps36
  go_wp2_with (first
    | (go_at_call 32; refine (iSummed a n c xs _ HX.out hn h12 HB.out).mono ?_; rintro e w1 ⟨v, rfl, ⟨g, c', rfl, hg, hgc, hbs, -⟩, hb1⟩; have HB1 := Lib.hid hb1; have HBS := Lib.hid hbs; clear hb1 hbs hg)
    | (go_at_call 41; refine (lEqual _ _ _ _ _ _ _ _ _ rfl HX.out HBS.out (bs_below HB.out HB1.out)).mono ?_; rintro e w2 ⟨rfl, rfl⟩))
  go_ret
  exact ⟨rfl, HB1.out⟩

set_option maxHeartbeats 1000000 in
theorem iForm (b off n c : Nat) (xs : List Int) (w : World) (hx : xs.length = n) (hn : n ≤ 1000000) (hnc : n ≤ c) (h20 : 20 ≤ n) (hH : hsz (al0 xs) ≤ n) (hf : xs.getD 0 0 = 69 ∨ xs.getD 0 0 = 70) (hb : Bs w (some ⟨b, off, none⟩) xs) :
    Calls Try.prog 35 #[.slice (some ⟨b, off, none⟩) n c] w fun e w' => e = .returned (.bool (decide (formOk xs))) ∧ Below w.heap.size w w' := by
  have c0 : w.cell? ⟨b, off, none⟩ = some (.int .u8 (xs.getD 0 0)) := bs_cell hb (k := 0) (by omega)
  have c1 : w.cell? ⟨b, off + 1, none⟩ = some (.int .u8 (xs.getD 1 0)) := bs_cell hb (k := 1) (by omega)
  have hcl : ∀ q, (w.drewN q).cell? ⟨b, off, none⟩ = some (.int .u8 (xs.getD 0 0)) := fun q => c0
  have i1 : (1 : Int) < (n : Int) := by omega
  have i0 : (0 : Int) < (n : Int) := by omega
  have HX := Lib.hid hx
  have HB := Lib.hid hb
  have hI : IsB xs := hb.2
  by_cases h1 : xs.getD 1 0 = 0
  case neg =>
    have e1 : (xs.getD 1 0 != 0) = true := by rw [bne_iff_ne]; exact h1
    have hF : decide (formOk xs) = false := decide_eq_false (fun h => h1 h.1.1)
    rw [hF]
    clear hF hx hb hf hI hcl c0
    go_enter Try.func35, Try.ntmps35
    go_wp2_with fail
    go_ret
    exact ⟨rfl, Below.refl _ _⟩
  have e1 : (xs.getD 1 0 != 0) = false := by rw [h1]; rfl
  by_cases h6 : num xs 6 = 0
  case neg =>
    have e6 : (num xs 6 != 0) = true := by rw [bne_iff_ne]; exact h6
    have hF : decide (formOk xs) = false := decide_eq_false (fun h => h6 (by
      have := h.1.2.1; have h7 := h.1.2.2
      show xs.getD 6 0 * 256 + xs.getD 7 0 = 0
      rw [this, h7]; rfl))
    rw [hF]
    clear hF hx hb hf hI hcl c0
    go_enter Try.func35, Try.ntmps35
    go_wp2_with (go_at_call 25; refine (iNum _ _ _ (xs.drop 6) _ (by rw [List.length_drop, HX.out]) (by omega) (bs_drop HB.out 6)).mono ?_; rintro e w1 ⟨rfl, q, rfl⟩; rw [num_drop])
    go_ret
    exact ⟨rfl, bdrawn (Below.refl _ _) _⟩
  have e6 : (num xs 6 != 0) = false := by rw [h6]; rfl
  have h67 : xs.getD 6 0 = 0 ∧ xs.getD 7 0 = 0 := by
    have p6 := getD_bd hI 6; have p7 := getD_bd hI 7
    have h6' : xs.getD 6 0 * 256 + xs.getD 7 0 = 0 := h6
    omega
  have ha : (all0 xs : Int) = num xs 2 := by unfold all0; have := num_bd hI 2; omega
  have hnb := num_bd hI 2
  have first : Calls Try.prog 25 #[.slice (some ⟨b, off + 6, none⟩) (n - 6) (c - 6)] w fun e w' => e = .returned (.int .u16 (num xs 6)) ∧ ∃ q, w.drewN q = w' := by
    have := iNum (some ⟨b, off + 6, none⟩) (n - 6) (c - 6) (xs.drop 6) w (by rw [List.length_drop, HX.out]) (by omega) (bs_drop HB.out 6)
    rwa [num_drop] at this
  have second : ∀ w1, Below w.heap.size w w1 → Calls Try.prog 25 #[.slice (some ⟨b, off + 2, none⟩) (n - 2) (c - 2)] w1 fun e w' => e = .returned (.int .u16 (num xs 2)) ∧ ∃ q, w1.drewN q = w' := fun w1 hb1 => by
    have := iNum (some ⟨b, off + 2, none⟩) (n - 2) (c - 2) (xs.drop 2) w1 (by rw [List.length_drop, HX.out]) (by omega) (bs_drop (bs_below HB.out hb1) 2)
    rwa [num_drop] at this
  have SEC := Lib.hid second
  have FST := Lib.hid first
  have H1 := Lib.hid h1
  have H67 := Lib.hid h67
  have HA := Lib.hid ha
  clear first second h6 hI hx hb h67 h1 ha
  rcases hf with hf | hf
  · have hal : al0 xs = false := by unfold al0; rw [hf]; rfl
    have hs : hsz (al0 xs) = 20 := by rw [hal]; rfl
    have HF : Hid (formOk xs ↔ (20 ≤ num xs 2 ∧ num xs 2 ≤ 1500)) := Lib.hid (by
      unfold formOk
      rw [hs, hal]
      have := HA.out
      constructor
      · rintro ⟨_, _, h1, h2⟩; omega
      · rintro ⟨h1, h2⟩; exact ⟨⟨H1.out, H67.out⟩, fun h => (by cases h), by omega, by omega⟩)
    rw [hf] at c0 hcl
    clear hal hs hH hf
    by_cases l1 : 20 ≤ num xs 2
    · by_cases l2 : num xs 2 ≤ 1500
      · rw [decide_eq_true (HF.out.2 ⟨l1, l2⟩)]
        go_enter Try.func35, Try.ntmps35
        go_wp2_with (first
          | (refine FST.out.mono ?_; rintro e w1 ⟨rfl, q, rfl⟩)
          | (go_at_call 17; refine (iSize _ _ (by omega) (by omega)).mono ?_; rintro e w2 ⟨rfl, rfl⟩))
        go_quiet (fail)
        go_wp2_with (go_at_call 25; refine (SEC.out (w.drewN _) (bdrawn (Below.refl _ _) _)).mono ?_; rintro e w3 ⟨rfl, q3, rfl⟩)
        go_ret
        exact ⟨rfl, bdrawn (Below.refl _ _) _⟩
      · have d2 : decide (num xs 2 ≤ 1500) = false := decide_eq_false l2
        rw [decide_eq_false (fun h => l2 (HF.out.1 h).2)]
        go_enter Try.func35, Try.ntmps35
        go_wp2_with (first
          | (refine FST.out.mono ?_; rintro e w1 ⟨rfl, q, rfl⟩)
          | (go_at_call 17; refine (iSize _ _ (by omega) (by omega)).mono ?_; rintro e w2 ⟨rfl, rfl⟩))
        go_quiet (fail)
        go_wp2_with (go_at_call 25; refine (SEC.out (w.drewN _) (bdrawn (Below.refl _ _) _)).mono ?_; rintro e w3 ⟨rfl, q3, rfl⟩)
        go_ret
        exact ⟨rfl, bdrawn (Below.refl _ _) _⟩
    · rw [decide_eq_false (fun h => l1 (HF.out.1 h).1)]
      go_enter Try.func35, Try.ntmps35
      go_wp2_with (first
        | (refine FST.out.mono ?_; rintro e w1 ⟨rfl, q, rfl⟩)
        | (go_at_call 17; refine (iSize _ _ (by omega) (by omega)).mono ?_; rintro e w2 ⟨rfl, rfl⟩))
      go_quiet (fail)
      go_wp2_with (go_at_call 25; refine (SEC.out (w.drewN _) (bdrawn (Below.refl _ _) _)).mono ?_; rintro e w3 ⟨rfl, q3, rfl⟩)
      go_ret
      exact ⟨rfl, bdrawn (Below.refl _ _) _⟩
  · have hal : al0 xs = true := by unfold al0; rw [hf]; rfl
    have hs : hsz (al0 xs) = 24 := by rw [hal]; rfl
    have h24 : 24 ≤ n := by omega
    have HF : Hid (formOk xs ↔ (xs.drop 20).take 4 = alertL ∧ (24 ≤ num xs 2 ∧ num xs 2 ≤ 1500)) := Lib.hid (by
      rw [list4 (by rw [HX.out]; omega)]
      unfold formOk alertL
      rw [hs, hal]
      have := HA.out
      simp only [List.cons.injEq, and_true]
      constructor
      · rintro ⟨_, h, h1, h2⟩; exact ⟨h trivial, by omega, by omega⟩
      · rintro ⟨h, h1, h2⟩; exact ⟨⟨H1.out, H67.out⟩, fun _ => h, by omega, by omega⟩)
    rw [hf] at c0 hcl
    clear hal hs hH hf
    obtain ⟨E, hE⟩ : ∃ E, E = decide ((xs.drop 20).take 4 = alertL) := ⟨_, rfl⟩
    have EQ : Hid (∀ w1, Below w.heap.size w w1 → Calls Try.prog 41 #[.slice (some ⟨b, off + 20, none⟩) 4 (c - 20), .slice (some ⟨w1.heap.size, 0, none⟩) 4 4] (w1.alloc (.cells #[.int .u8 148, .int .u8 4, .int .u8 0, .int .u8 0] 5)) fun e w' => e = .returned (.bool E) ∧ w' = w1.alloc (.cells #[.int .u8 148, .int .u8 4, .int .u8 0, .int .u8 0] 5)) := Lib.hid (fun w1 hb1 => by
      rw [hE]
      obtain ⟨_, _, e1, hbs, _⟩ := new_sl w1 alertL isB_alert 4 rfl
      cases e1
      exact lEqual _ _ 4 4 _ 4 ((xs.drop 20).take 4) alertL _ (by rw [List.length_take, List.length_drop, HX.out]; omega) rfl (bs_take (bs_drop (bs_below HB.out (hb1.alloc hb1.size _)) 20) 4) hbs)
    by_cases l0 : (xs.drop 20).take 4 = alertL
    case neg =>
      rw [decide_eq_false l0] at hE
      subst hE
      rw [decide_eq_false (fun h => l0 (HF.out.1 h).1)]
      clear l0
      go_enter Try.func35, Try.ntmps35
      go_wp2_with (first
        | (refine FST.out.mono ?_; rintro e w1 ⟨rfl, q, rfl⟩)
        | (go_at_call 17; refine (iSize _ _ (by omega) (by omega)).mono ?_; rintro e w2 ⟨rfl, rfl⟩))
      go_region_with (first
        | (go_at_call 31; refine (iAlert _).mono ?_; rintro e w3 ⟨rfl, rfl⟩)
        | (go_at_call 41; refine (EQ.out (w.drewN _) (bdrawn (Below.refl _ _) _)).mono ?_; rintro e w4 ⟨rfl, rfl⟩))
      all_goals
        go_wp2_with fail
        go_ret
        exact ⟨rfl, (bdrawn (Below.refl _ _) _).alloc (Nat.le_refl _) _⟩
    rw [decide_eq_true l0] at hE
    subst hE
    by_cases l1 : 24 ≤ num xs 2
    · by_cases l2 : num xs 2 ≤ 1500
      · rw [decide_eq_true (HF.out.2 ⟨l0, l1, l2⟩)]
        clear l0
        go_enter Try.func35, Try.ntmps35
        go_wp2_with (first
          | (refine FST.out.mono ?_; rintro e w1 ⟨rfl, q, rfl⟩)
          | (go_at_call 17; refine (iSize _ _ (by omega) (by omega)).mono ?_; rintro e w2 ⟨rfl, rfl⟩))
        go_region_with (first
          | (go_at_call 31; refine (iAlert _).mono ?_; rintro e w3 ⟨rfl, rfl⟩)
          | (go_at_call 41; refine (EQ.out (w.drewN _) (bdrawn (Below.refl _ _) _)).mono ?_; rintro e w4 ⟨rfl, rfl⟩))
        all_goals
          go_wp2_with (go_at_call 25; refine (SEC.out ((w.drewN _).alloc _) ((bdrawn (Below.refl _ _) _).alloc (Nat.le_refl _) _)).mono ?_; rintro e w5 ⟨rfl, q5, rfl⟩)
          go_ret
          exact ⟨rfl, bdrawn ((bdrawn (Below.refl _ _) _).alloc (Nat.le_refl _) _) _⟩
      · have d2 : decide (num xs 2 ≤ 1500) = false := decide_eq_false l2
        rw [decide_eq_false (fun h => l2 (HF.out.1 h).2.2)]
        clear l0
        go_enter Try.func35, Try.ntmps35
        go_wp2_with (first
          | (refine FST.out.mono ?_; rintro e w1 ⟨rfl, q, rfl⟩)
          | (go_at_call 17; refine (iSize _ _ (by omega) (by omega)).mono ?_; rintro e w2 ⟨rfl, rfl⟩))
        go_region_with (first
          | (go_at_call 31; refine (iAlert _).mono ?_; rintro e w3 ⟨rfl, rfl⟩)
          | (go_at_call 41; refine (EQ.out (w.drewN _) (bdrawn (Below.refl _ _) _)).mono ?_; rintro e w4 ⟨rfl, rfl⟩))
        all_goals
          go_wp2_with (go_at_call 25; refine (SEC.out ((w.drewN _).alloc _) ((bdrawn (Below.refl _ _) _).alloc (Nat.le_refl _) _)).mono ?_; rintro e w5 ⟨rfl, q5, rfl⟩)
          go_ret
          exact ⟨rfl, bdrawn ((bdrawn (Below.refl _ _) _).alloc (Nat.le_refl _) _) _⟩
    · rw [decide_eq_false (fun h => l1 (HF.out.1 h).2.1)]
      clear l0
      go_enter Try.func35, Try.ntmps35
      go_wp2_with (first
        | (refine FST.out.mono ?_; rintro e w1 ⟨rfl, q, rfl⟩)
        | (go_at_call 17; refine (iSize _ _ (by omega) (by omega)).mono ?_; rintro e w2 ⟨rfl, rfl⟩))
      go_region_with (first
        | (go_at_call 31; refine (iAlert _).mono ?_; rintro e w3 ⟨rfl, rfl⟩)
        | (go_at_call 41; refine (EQ.out (w.drewN _) (bdrawn (Below.refl _ _) _)).mono ?_; rintro e w4 ⟨rfl, rfl⟩))
      all_goals
        go_wp2_with (go_at_call 25; refine (SEC.out ((w.drewN _).alloc _) ((bdrawn (Below.refl _ _) _).alloc (Nat.le_refl _) _)).mono ?_; rintro e w5 ⟨rfl, q5, rfl⟩)
        go_ret
        exact ⟨rfl, bdrawn ((bdrawn (Below.refl _ _) _).alloc (Nat.le_refl _) _) _⟩
end Go.Proofs.Ythmejokjbkkfbaa
