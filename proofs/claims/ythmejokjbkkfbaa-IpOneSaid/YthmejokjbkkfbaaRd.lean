/- Contracts of the document's own answers for frames (stolonref04): Decode: with Alert. -/
import Derived.Test.YthmejokjbkkfbaaRc
namespace Go.Proofs.Ythmejokjbkkfbaa
set_option linter.unusedVariables false
open Go.RowKit

set_option maxRecDepth 100000 in
set_option maxHeartbeats 4000000 in
theorem rDecode5_24 (b off n c : Nat) (xs : List Int) (w : World) (hx : xs.length = n) (hn : n ≤ 1000000) (hnc : n ≤ c) (h20 : 20 ≤ n) (hb : Bs w (some ⟨b, off, none⟩) xs) (h0 : xs.getD 0 0 = 70) (hH : 24 ≤ n) (h4 : ofs (xs.take 24) = 0) :
    Calls Try.prog 13 #[.slice (some ⟨b, off, none⟩) n c] w (DPost xs w) := by
  have hal : al0 xs = true := by unfold al0; rw [h0]; rfl
  have hs : hsz (al0 xs) = 24 := by rw [hal]; rfl
  have hI : IsB xs := hb.2
  obtain ⟨A, hA⟩ : ∃ A, A = all0 xs := ⟨_, rfl⟩
  obtain ⟨x1, hx1⟩ : ∃ x, x = xs.getD 1 0 := ⟨_, rfl⟩
  obtain ⟨x2, hx2⟩ : ∃ x, x = xs.getD 2 0 := ⟨_, rfl⟩
  obtain ⟨x3, hx3⟩ : ∃ x, x = xs.getD 3 0 := ⟨_, rfl⟩
  obtain ⟨x4, hx4⟩ : ∃ x, x = xs.getD 4 0 := ⟨_, rfl⟩
  obtain ⟨x5, hx5⟩ : ∃ x, x = xs.getD 5 0 := ⟨_, rfl⟩
  obtain ⟨x6, hx6⟩ : ∃ x, x = xs.getD 6 0 := ⟨_, rfl⟩
  obtain ⟨x7, hx7⟩ : ∃ x, x = xs.getD 7 0 := ⟨_, rfl⟩
  obtain ⟨x8, hx8⟩ : ∃ x, x = xs.getD 8 0 := ⟨_, rfl⟩
  obtain ⟨x9, hx9⟩ : ∃ x, x = xs.getD 9 0 := ⟨_, rfl⟩
  obtain ⟨x20, hx20⟩ : ∃ x, x = xs.getD 20 0 := ⟨_, rfl⟩
  obtain ⟨x21, hx21⟩ : ∃ x, x = xs.getD 21 0 := ⟨_, rfl⟩
  obtain ⟨x22, hx22⟩ : ∃ x, x = xs.getD 22 0 := ⟨_, rfl⟩
  obtain ⟨x23, hx23⟩ : ∃ x, x = xs.getD 23 0 := ⟨_, rfl⟩
  have HFA : Hid (fault xs = if formOk xs then (if n < A then 3 else if putS (xs.take 24) 10 = xs.take 24 then 0 else 4) else 2) := Lib.hid (by
    have := fault_at (xs := xs) (by omega) (.inr h0) (by rw [hs]; omega) (by rw [hs]; exact h4)
    rw [hs, hx, ← hA] at this; exact this)
  have HFO : Hid (formOk xs ↔ (x1 = 0 ∧ x6 = 0 ∧ x7 = 0) ∧ (x20 = 148 ∧ x21 = 4 ∧ x22 = 0 ∧ x23 = 0) ∧ (24 ≤ A ∧ A ≤ 1500)) := Lib.hid (by
    unfold formOk
    rw [hs, hal, ← hA, ← hx1, ← hx6, ← hx7, ← hx20, ← hx21, ← hx22, ← hx23]
    constructor
    · rintro ⟨p, q, r⟩; exact ⟨p, q rfl, r⟩
    · rintro ⟨p, q, r⟩; exact ⟨p, fun _ => q, r⟩)
  have CELL : Hid (∀ W, Below w.heap.size w W → W.cell? ⟨b, off + 1, none⟩ = some (.int .u8 x1) ∧ W.cell? ⟨b, off + 2, none⟩ = some (.int .u8 x2) ∧ W.cell? ⟨b, off + 3, none⟩ = some (.int .u8 x3) ∧ W.cell? ⟨b, off + 4, none⟩ = some (.int .u8 x4) ∧ W.cell? ⟨b, off + 5, none⟩ = some (.int .u8 x5) ∧ W.cell? ⟨b, off + 6, none⟩ = some (.int .u8 x6) ∧ W.cell? ⟨b, off + 7, none⟩ = some (.int .u8 x7) ∧ W.cell? ⟨b, off + 8, none⟩ = some (.int .u8 x8) ∧ W.cell? ⟨b, off + 9, none⟩ = some (.int .u8 x9) ∧ W.cell? ⟨b, off + 20, none⟩ = some (.int .u8 x20) ∧ W.cell? ⟨b, off + 21, none⟩ = some (.int .u8 x21) ∧ W.cell? ⟨b, off + 22, none⟩ = some (.int .u8 x22) ∧ W.cell? ⟨b, off + 23, none⟩ = some (.int .u8 x23)) := Lib.hid (fun W hW => by
    have hbW := bs_below hb hW
    rw [hx1, hx2, hx3, hx4, hx5, hx6, hx7, hx8, hx9, hx20, hx21, hx22, hx23]
    exact ⟨bs_cell hbW (k := 1) (by omega), bs_cell hbW (k := 2) (by omega), bs_cell hbW (k := 3) (by omega), bs_cell hbW (k := 4) (by omega), bs_cell hbW (k := 5) (by omega), bs_cell hbW (k := 6) (by omega), bs_cell hbW (k := 7) (by omega), bs_cell hbW (k := 8) (by omega), bs_cell hbW (k := 9) (by omega), bs_cell hbW (k := 20) (by omega), bs_cell hbW (k := 21) (by omega), bs_cell hbW (k := 22) (by omega), bs_cell hbW (k := 23) (by omega)⟩)
  have p2 := getD_bd hI 2
  rw [← hx2] at p2
  have p3 := getD_bd hI 3
  rw [← hx3] at p3
  have p4 := getD_bd hI 4
  rw [← hx4] at p4
  have p5 := getD_bd hI 5
  rw [← hx5] at p5
  have CELL0 : Hid (∀ W, Below w.heap.size w W → W.cell? ⟨b, off, none⟩ = some (.int .u8 70)) := Lib.hid (fun W hW => by rw [← h0]; exact bs_cell (bs_below hb hW) (k := 0) (by omega))
  have ROF : Hid (∀ W (k : Nat), k + 4 ≤ n → Below w.heap.size w W → Calls Try.prog 27 #[.slice (some ⟨b, off + k, none⟩) 4 (c - k)] W fun e w' => e = .returned (.tuple #[.int .u32 (ofv ((xs.drop k).take 4)), .int .i64 0]) ∧ Below W.heap.size W w') := Lib.hid (fun W k hk hW =>
    rOf _ 4 _ ((xs.drop k).take 4) W (by rw [List.length_take, List.length_drop]; omega) (by omega) (bs_take (bs_drop (bs_below hb hW) k) 4))
  have e4 : (ofs (xs.take 24) != 0) = false := by rw [h4]; rfl
  have HT : Hid ((xs.take 24).length = 24) := Lib.hid (by rw [List.length_take, hx]; omega)
  have hA2 : x2 * 256 + x3 = (A : Int) := by rw [hA, hx2, hx3]; unfold all0; have := num_bd hI 2; show num xs 2 = _; omega
  have hid : (hdr xs).id = x4 * 256 + x5 := by rw [hx4, hx5]; rfl
  have hpr : (hdr xs).proto = x9 := by rw [hx9]; rfl
  have htt : (hdr xs).ttl = x8 := by rw [hx8]; rfl
  have hsr : (hdr xs).src = ofv ((xs.drop 12).take 4) := rfl
  have hds : (hdr xs).dst = ofv ((xs.drop 16).take 4) := rfl
  have hala : (hdr xs).alert = true := hal
  have HOK := Lib.hid (hdr_ok hI (by omega))
  have HBOD : Hid (A ≤ n → 24 ≤ A → bod xs = (xs.drop 24).take (A - 24) ∧ (bod xs).length = A - 24) := Lib.hid (fun h1 h2 => by
    have e : bod xs = (xs.drop 24).take (A - 24) := by unfold bod; rw [hs, ← hA]
    exact ⟨e, by rw [e, List.length_take, List.length_drop]; omega⟩)
  have ENS : Hid (formOk xs → A ≤ n → (enc (hdr xs) (bod xs) = xs.take A ↔ putS (xs.take 24) 10 = xs.take 24) ∧ hsz (hdr xs).alert + (bod xs).length = A) := Lib.hid (fun h1 h2 => by
    have g1 := enc_same hI (by omega) (.inr h0) (by rw [hs]; omega) h1 (by rw [← hA]; omega)
    have g2 := (enc_hdr hI (by omega) (.inr h0) (by rw [hs]; omega) h1 (by rw [← hA]; omega)).2
    rw [hs, ← hA] at g1
    rw [← hA] at g2
    exact ⟨g1, g2⟩)
  have i0 : (0 : Int) < (n : Int) := by omega
  have j0 : 0 < n := by omega
  have i2 : (2 : Int) < (n : Int) := by omega
  have i3 : (3 : Int) < (n : Int) := by omega
  have i4 : (4 : Int) < (n : Int) := by omega
  have i5 : (5 : Int) < (n : Int) := by omega
  have i8 : (8 : Int) < (n : Int) := by omega
  have i9 : (9 : Int) < (n : Int) := by omega
  have HX := Lib.hid hx
  have HB := Lib.hid hb
  have HID := Lib.hid hid
  have HPR := Lib.hid hpr
  have HTT := Lib.hid htt
  have HSR := Lib.hid hsr
  have HDS := Lib.hid hds
  have HAL := Lib.hid hala
  have HH4 := Lib.hid h4
  have BX0 := Lib.hid (HBox.new w hz)
  have B0 : Hid (Below w.heap.size w (w.alloc (.cells #[.int .u32 0, .int .u32 0, .int .u8 0, .int .u8 0, .int .u16 0, .bool false] 26))) := Lib.hid ((Below.refl _ w).alloc (Nat.le_refl _) _)
  have k0 := CELL0.out _ B0.out
  have s1 : IntKind.i64.wrap (x2 * 256) = x2 * 256 := IntWalk.i64_in _ (by omega)
  have s2 : IntKind.i64.wrap (x2 * 256 + x3) = x2 * 256 + x3 := IntWalk.i64_in _ (by omega)
  have HA2 := Lib.hid hA2
  clear hx hb h0 h4 hI hal hs hA hid hpr htt hsr hds hala hx1 hx2 hx3 hx4 hx5 hx6 hx7 hx8 hx9 hx20 hx21 hx22 hx23
  go_enter Try.func13, Try.ntmps13
  go_wp2_with (first
    | (go_at_call 26; refine (rOf2 _ 24 c (xs.take 24) _ HT.out (by omega) (bs_take (bs_below HB.out B0.out) 24)).mono ?_; rintro e w2 ⟨rfl, rfl⟩)
    | (go_at_call 27; refine (ROF.out _ _ ?_ ?_).mono ?_; omega; (first | exact HB3.out | exact B0.out); rintro e w3 ⟨rfl, hb3⟩; have BXn : HBox w3 w.heap.size hz := (by first | exact BX3.out.keep hb3 | exact BX0.out.keep hb3); have HBn : Below w.heap.size w w3 := (by first | exact HB3.out.trans (hb3.mono HB3.out.size) | exact B0.out.trans (hb3.mono B0.out.size)); have BX3 := Lib.hid BXn; have HB3 := Lib.hid HBn; obtain ⟨k1, k2, k3, k4, k5, k6, k7, k8, k9, k20, k21, k22, k23⟩ := CELL.out _ HBn; have k0 := CELL0.out _ HBn; clear hb3 BXn HBn))
  go_quiet (fail)
  go_wp2_with fail
  refine wp_region_each2 (gV b off n c w3.heap.size x4 x5 24 (hdr xs)) (fun W => Below w3.heap.size w3 W) (fun _ A B => dR w3.heap.size A B) gD [70, 71, 72, 73, 74, 75, 76, 77, 78, 79, 80, 81, 82, 83, 84, 85, 86, 87, 88, 89, 90, 11] (by kernel_rfl) (by kernel_rfl) (by kernel_rfl) (bdrawn (Below.refl _ w3) _).drew ?hst
    ⟨?_, ?_, ?_, ?_, ?_, ?_, ?_, ?_, ?_, ?_, ?_, ?_, ?_, ?_, ?_, ?_, ?_, ?_, ?_, ?_, ?_, ?_, ?_, trivial⟩ ?hend
  case hst =>
    intro i j oi oj v us A B hoi hoj hij hw hSA hr hv
    by_cases h22 : i = 22
    · subst h22
      exfalso
      have hj : j < 23 := (Array.getElem?_eq_some_iff.1 hoj).1
      have hc : Option.map (fun o => (List.range 22).all (waits o)) (some oi) = some true := by rw [← hoi]; kernel_rfl
      have hall : (List.range 22).all (waits oi) = true := by simpa using hc
      have h1 := List.all_eq_true.1 hall j (List.mem_range.2 (by omega))
      rw [hw] at h1
      cases h1
    · exact gV_stable h22 hr hv
  case refine_1 =>
    intro a w4 hS h0 hd
    have hsz : w3.heap.size ≤ w4.heap.size := hS.size
    have e6 : a.tmps[6]?.getD undef = .int .u32 (hdr xs).src := ev (h0 6 (by kernel_rfl))
    refine Does2.value (.int .u32 (hdr xs).src) (w' := w4) ?_ ⟨rfl, hS, dR_of (Below.refl _ _) hsz⟩
    clear hS h0 hd hsz
    go_simp
  case refine_2 =>
    intro a w4 hS h0 hd
    have hsz : w3.heap.size ≤ w4.heap.size := hS.size
    have e8 : a.tmps[8]?.getD undef = .int .u32 (hdr xs).dst := ev (h0 8 (by kernel_rfl))
    refine Does2.value (.int .u32 (hdr xs).dst) (w' := w4) ?_ ⟨rfl, hS, dR_of (Below.refl _ _) hsz⟩
    clear hS h0 hd hsz
    go_simp
  case refine_3 =>
    intro a w4 hS h0 hd
    have hsz : w3.heap.size ≤ w4.heap.size := hS.size
    have e0 : a.tmps[0]?.getD undef = .slice (some ⟨b, off, none⟩) n c := ev (h0 0 (by kernel_rfl))
    refine Does2.value (.slice (some ⟨b, off, none⟩) n c) (w' := w4) ?_ ⟨rfl, hS, dR_of (Below.refl _ _) hsz⟩
    clear hS h0 hd hsz
    go_simp
  case refine_4 =>
    intro a w4 hS h0 hd
    have hsz : w3.heap.size ≤ w4.heap.size := hS.size
    have e72 : a.tmps[72]?.getD undef = .slice (some ⟨b, off, none⟩) n c := ev (hd 2 List.mem_cons_self)
    refine Does2.value (.pointer (some ⟨b, off + 9, none⟩)) (w' := w4) ?_ ⟨rfl, hS, dR_of (Below.refl _ _) hsz⟩
    clear hS h0 hd hsz
    go_simp
  case refine_5 =>
    intro a w4 hS h0 hd
    have hsz : w3.heap.size ≤ w4.heap.size := hS.size
    have e73 : a.tmps[73]?.getD undef = .pointer (some ⟨b, off + 9, none⟩) := ev (hd 3 List.mem_cons_self)
    obtain ⟨k1, k2, k3, k4, k5, k6, k7, k8, k9, k20, k21, k22, k23⟩ := CELL.out _ (HB3.out.trans (hS.mono HB3.out.size))
    refine Does2.value (.int .u8 (hdr xs).proto) (w' := w4) ?_ ⟨rfl, hS, dR_of (Below.refl _ _) hsz⟩
    clear hS h0 hd hsz
    have q := HPR.out
    go_simp
  case refine_6 =>
    intro a w4 hS h0 hd
    have hsz : w3.heap.size ≤ w4.heap.size := hS.size
    have e0 : a.tmps[0]?.getD undef = .slice (some ⟨b, off, none⟩) n c := ev (h0 0 (by kernel_rfl))
    refine Does2.value (.slice (some ⟨b, off, none⟩) n c) (w' := w4) ?_ ⟨rfl, hS, dR_of (Below.refl _ _) hsz⟩
    clear hS h0 hd hsz
    go_simp
  case refine_7 =>
    intro a w4 hS h0 hd
    have hsz : w3.heap.size ≤ w4.heap.size := hS.size
    have e75 : a.tmps[75]?.getD undef = .slice (some ⟨b, off, none⟩) n c := ev (hd 5 List.mem_cons_self)
    refine Does2.value (.pointer (some ⟨b, off + 8, none⟩)) (w' := w4) ?_ ⟨rfl, hS, dR_of (Below.refl _ _) hsz⟩
    clear hS h0 hd hsz
    go_simp
  case refine_8 =>
    intro a w4 hS h0 hd
    have hsz : w3.heap.size ≤ w4.heap.size := hS.size
    have e76 : a.tmps[76]?.getD undef = .pointer (some ⟨b, off + 8, none⟩) := ev (hd 6 List.mem_cons_self)
    obtain ⟨k1, k2, k3, k4, k5, k6, k7, k8, k9, k20, k21, k22, k23⟩ := CELL.out _ (HB3.out.trans (hS.mono HB3.out.size))
    refine Does2.value (.int .u8 (hdr xs).ttl) (w' := w4) ?_ ⟨rfl, hS, dR_of (Below.refl _ _) hsz⟩
    clear hS h0 hd hsz
    have q := HTT.out
    go_simp
  case refine_9 =>
    intro a w4 hS h0 hd
    have hsz : w3.heap.size ≤ w4.heap.size := hS.size
    have e0 : a.tmps[0]?.getD undef = .slice (some ⟨b, off, none⟩) n c := ev (h0 0 (by kernel_rfl))
    refine Does2.value (.slice (some ⟨b, off, none⟩) n c) (w' := w4) ?_ ⟨rfl, hS, dR_of (Below.refl _ _) hsz⟩
    clear hS h0 hd hsz
    go_simp
  case refine_10 =>
    intro a w4 hS h0 hd
    have hsz : w3.heap.size ≤ w4.heap.size := hS.size
    have e78 : a.tmps[78]?.getD undef = .slice (some ⟨b, off, none⟩) n c := ev (hd 8 List.mem_cons_self)
    refine Does2.value (.pointer (some ⟨b, off + 4, none⟩)) (w' := w4) ?_ ⟨rfl, hS, dR_of (Below.refl _ _) hsz⟩
    clear hS h0 hd hsz
    go_simp
  case refine_11 =>
    intro a w4 hS h0 hd
    have hsz : w3.heap.size ≤ w4.heap.size := hS.size
    have e79 : a.tmps[79]?.getD undef = .pointer (some ⟨b, off + 4, none⟩) := ev (hd 9 List.mem_cons_self)
    obtain ⟨k1, k2, k3, k4, k5, k6, k7, k8, k9, k20, k21, k22, k23⟩ := CELL.out _ (HB3.out.trans (hS.mono HB3.out.size))
    refine Does2.value (.int .u8 x4) (w' := w4) ?_ ⟨rfl, hS, dR_of (Below.refl _ _) hsz⟩
    clear hS h0 hd hsz
    go_simp
  case refine_12 =>
    intro a w4 hS h0 hd
    have hsz : w3.heap.size ≤ w4.heap.size := hS.size
    have e80 : a.tmps[80]?.getD undef = .int .u8 x4 := ev (hd 10 List.mem_cons_self)
    refine Does2.value (.int .u16 x4) (w' := w4) ?_ ⟨rfl, hS, dR_of (Below.refl _ _) hsz⟩
    clear hS h0 hd hsz
    have q : IntKind.u16.wrap x4 = x4 := wraps_u16 _ (by omega) (by omega)
    go_simp
  case refine_13 =>
    intro a w4 hS h0 hd
    have hsz : w3.heap.size ≤ w4.heap.size := hS.size
    have e81 : a.tmps[81]?.getD undef = .int .u16 x4 := ev (hd 11 List.mem_cons_self)
    refine Does2.value (.int .u16 (x4 * 256)) (w' := w4) ?_ ⟨rfl, hS, dR_of (Below.refl _ _) hsz⟩
    clear hS h0 hd hsz
    have q : IntKind.u16.wrap (x4 * 256) = x4 * 256 := wraps_u16 _ (by omega) (by omega)
    go_simp
  case refine_14 =>
    intro a w4 hS h0 hd
    have hsz : w3.heap.size ≤ w4.heap.size := hS.size
    have e0 : a.tmps[0]?.getD undef = .slice (some ⟨b, off, none⟩) n c := ev (h0 0 (by kernel_rfl))
    refine Does2.value (.slice (some ⟨b, off, none⟩) n c) (w' := w4) ?_ ⟨rfl, hS, dR_of (Below.refl _ _) hsz⟩
    clear hS h0 hd hsz
    go_simp
  case refine_15 =>
    intro a w4 hS h0 hd
    have hsz : w3.heap.size ≤ w4.heap.size := hS.size
    have e83 : a.tmps[83]?.getD undef = .slice (some ⟨b, off, none⟩) n c := ev (hd 13 List.mem_cons_self)
    refine Does2.value (.pointer (some ⟨b, off + 5, none⟩)) (w' := w4) ?_ ⟨rfl, hS, dR_of (Below.refl _ _) hsz⟩
    clear hS h0 hd hsz
    go_simp
  case refine_16 =>
    intro a w4 hS h0 hd
    have hsz : w3.heap.size ≤ w4.heap.size := hS.size
    have e84 : a.tmps[84]?.getD undef = .pointer (some ⟨b, off + 5, none⟩) := ev (hd 14 List.mem_cons_self)
    obtain ⟨k1, k2, k3, k4, k5, k6, k7, k8, k9, k20, k21, k22, k23⟩ := CELL.out _ (HB3.out.trans (hS.mono HB3.out.size))
    refine Does2.value (.int .u8 x5) (w' := w4) ?_ ⟨rfl, hS, dR_of (Below.refl _ _) hsz⟩
    clear hS h0 hd hsz
    go_simp
  case refine_17 =>
    intro a w4 hS h0 hd
    have hsz : w3.heap.size ≤ w4.heap.size := hS.size
    have e85 : a.tmps[85]?.getD undef = .int .u8 x5 := ev (hd 15 List.mem_cons_self)
    refine Does2.value (.int .u16 x5) (w' := w4) ?_ ⟨rfl, hS, dR_of (Below.refl _ _) hsz⟩
    clear hS h0 hd hsz
    have q : IntKind.u16.wrap x5 = x5 := wraps_u16 _ (by omega) (by omega)
    go_simp
  case refine_18 =>
    intro a w4 hS h0 hd
    have hsz : w3.heap.size ≤ w4.heap.size := hS.size
    have e82 : a.tmps[82]?.getD undef = .int .u16 (x4 * 256) := ev (hd 12 List.mem_cons_self)
    have e86 : a.tmps[86]?.getD undef = .int .u16 x5 := ev (hd 16 (List.mem_cons_of_mem _ List.mem_cons_self))
    refine Does2.value (.int .u16 (hdr xs).id) (w' := w4) ?_ ⟨rfl, hS, dR_of (Below.refl _ _) hsz⟩
    clear hS h0 hd hsz
    have q : IntKind.u16.wrap (x4 * 256 + x5) = x4 * 256 + x5 := wraps_u16 _ (by omega) (by omega)
    have q2 := HID.out
    go_simp
  case refine_19 =>
    intro a w4 hS h0 hd
    have hsz : w3.heap.size ≤ w4.heap.size := hS.size
    have e5 : a.tmps[5]?.getD undef = .int .i64 24 := ev (h0 5 (by kernel_rfl))
    refine Does2.value (.int .i64 (24 : Nat)) (w' := w4) ?_ ⟨rfl, hS, dR_of (Below.refl _ _) hsz⟩
    clear hS h0 hd hsz
    go_simp
  case refine_20 =>
    intro a w4 hS h0 hd
    have hsz : w3.heap.size ≤ w4.heap.size := hS.size
    have e88 : a.tmps[88]?.getD undef = .int .i64 (24 : Nat) := ev (hd 18 List.mem_cons_self)
    refine Does2.value (.bool (hdr xs).alert) (w' := w4) ?_ ⟨rfl, hS, dR_of (Below.refl _ _) hsz⟩
    clear hS h0 hd hsz
    have q := HAL.out
    go_simp
  case refine_21 =>
    intro a w4 hS h0 hd
    have hsz : w3.heap.size ≤ w4.heap.size := hS.size
    have e70 : a.tmps[70]?.getD undef = .int .u32 (hdr xs).src := ev (hd 0 List.mem_cons_self)
    have e71 : a.tmps[71]?.getD undef = .int .u32 (hdr xs).dst := ev (hd 1 (List.mem_cons_of_mem _ List.mem_cons_self))
    have e74 : a.tmps[74]?.getD undef = .int .u8 (hdr xs).proto := ev (hd 4 (List.mem_cons_of_mem _ (List.mem_cons_of_mem _ List.mem_cons_self)))
    have e77 : a.tmps[77]?.getD undef = .int .u8 (hdr xs).ttl := ev (hd 7 (List.mem_cons_of_mem _ (List.mem_cons_of_mem _ (List.mem_cons_of_mem _ List.mem_cons_self))))
    have e87 : a.tmps[87]?.getD undef = .int .u16 (hdr xs).id := ev (hd 17 (List.mem_cons_of_mem _ (List.mem_cons_of_mem _ (List.mem_cons_of_mem _ (List.mem_cons_of_mem _ List.mem_cons_self)))))
    have e89 : a.tmps[89]?.getD undef = .bool (hdr xs).alert := ev (hd 19 (List.mem_cons_of_mem _ (List.mem_cons_of_mem _ (List.mem_cons_of_mem _ (List.mem_cons_of_mem _ (List.mem_cons_of_mem _ List.mem_cons_self))))))
    refine Does2.value (.agg #[.int .u32 (hdr xs).src, .int .u32 (hdr xs).dst, .int .u8 (hdr xs).proto, .int .u8 (hdr xs).ttl, .int .u16 (hdr xs).id, .bool (hdr xs).alert]) (w' := w4) ?_ ⟨rfl, hS, dR_of (Below.refl _ _) hsz⟩
    clear hS h0 hd hsz
    go_simp
  case refine_22 =>
    intro a w4 hS h0 hd
    have hsz : w3.heap.size ≤ w4.heap.size := hS.size
    refine Does2.value (.pointer (some ⟨w4.heap.size, 0, none⟩)) (w' := w4.alloc (.cells #[.int .u32 0, .int .u32 0, .int .u8 0, .int .u8 0, .int .u16 0, .bool false] 26)) ?_ ⟨⟨_, rfl, hsz, hz, HBox.new w4 hz⟩, hS.alloc hsz _, dR_of ((Below.refl _ w4).alloc (Nat.le_refl _) _) hsz⟩
    clear hS h0 hd hsz
    go_simp
  case refine_23 =>
    intro a w4 hS h0 hd
    have hsz : w3.heap.size ≤ w4.heap.size := hS.size
    obtain ⟨g, e11, hg, h', hb⟩ := hd 21 List.mem_cons_self
    replace e11 := ev e11
    have e90 : a.tmps[90]?.getD undef = .agg #[.int .u32 (hdr xs).src, .int .u32 (hdr xs).dst, .int .u8 (hdr xs).proto, .int .u8 (hdr xs).ttl, .int .u16 (hdr xs).id, .bool (hdr xs).alert] := ev (hd 20 (List.mem_cons_of_mem _ List.mem_cons_self))
    obtain ⟨c0, c1, c2, c3, c4, c5⟩ := hb.cells
    have fz := hb.frozen
    have hs := hb.store (hdr xs)
    have hbl := below_store (Below.refl w3.heap.size w4) hg (.int .u32 (hdr xs).src) (.int .u32 (hdr xs).dst) (.int .u8 (hdr xs).proto) (.int .u8 (hdr xs).ttl) (.int .u16 (hdr xs).id) (.bool (hdr xs).alert)
    refine Does2.skip (w' := ((((((w4.setCell ⟨g, 0, none⟩ (.int .u32 (hdr xs).src)).setCell ⟨g, 1, none⟩ (.int .u32 (hdr xs).dst)).setCell ⟨g, 2, none⟩ (.int .u8 (hdr xs).proto)).setCell ⟨g, 3, none⟩ (.int .u8 (hdr xs).ttl)).setCell ⟨g, 4, none⟩ (.int .u16 (hdr xs).id)).setCell ⟨g, 5, none⟩ (.bool (hdr xs).alert))) ?_ ⟨⟨g, ?_, hg, hs⟩, hS.trans hbl, hbl, fun g' h'' k => ?_⟩
    · clear hS h0 hd hsz hs hbl hb
      go_simp
    · exact congrArg some (hev e11)
    · by_cases hgg : g' = g
      · subst hgg; exact ⟨_, hs⟩
      · exact ⟨h'', hstore_other hgg k⟩
  case hend =>
    intro f w5 hS hV
    obtain ⟨g, e11, hg, hbx⟩ := hV 22 (by decide)
    have e11 : f 11 = .pointer (some ⟨g, 0, none⟩) := Option.some.inj e11
    simp only [putAll, Act.put, List.setIfInBounds_toArray, List.set_cons_zero, List.set_cons_succ, e11]
    have BX5 := Lib.hid (BX3.out.below hS BX3.out.lt)
    have HG5 := Lib.hid hbx
    have HB5 : Hid (Below w.heap.size w w5) := Lib.hid (HB3.out.trans (hS.mono HB3.out.size))
    obtain ⟨k1, k2, k3, k4, k5, k6, k7, k8, k9, k20, k21, k22, k23⟩ := CELL.out _ HB5.out
    obtain ⟨c0, c1, c2, c3, c4, c5⟩ := BX5.out.cells
    have fz := BX5.out.frozen
    clear hV hS hbx e4 hg s1 s2 hA2
    by_cases tx1 : x1 = 0
    case neg =>
      have fx1 : (x1 != 0) = true := by rw [bne_iff_ne]; exact tx1
      have HK : Hid (fault xs = 2) := Lib.hid (by
        rw [HFA.out, if_neg (fun e => tx1 (HFO.out.1 e).1.1)])
      clear tx1
      go_wp2_with fail
      exact ret_cell (p := 2) (u := 3) (v := 4) rfl rfl rfl (BX5.out.store hz).load (post_err HK.out (by decide) (below_store HB5.out (Nat.le_refl _) _ _ _ _ _ _))
    have fx1 : (x1 != 0) = false := by rw [tx1]; rfl
    have Tx1 := Lib.hid tx1
    clear tx1
    by_cases tx6 : x6 = 0
    case neg =>
      have fx6 : (x6 != 0) = true := by rw [bne_iff_ne]; exact tx6
      have HK : Hid (fault xs = 2) := Lib.hid (by
        rw [HFA.out, if_neg (fun e => tx6 (HFO.out.1 e).1.2.1)])
      clear tx6
      go_wp2_with fail
      exact ret_cell (p := 2) (u := 3) (v := 4) rfl rfl rfl (BX5.out.store hz).load (post_err HK.out (by decide) (below_store HB5.out (Nat.le_refl _) _ _ _ _ _ _))
    have fx6 : (x6 != 0) = false := by rw [tx6]; rfl
    have Tx6 := Lib.hid tx6
    clear tx6
    by_cases tx7 : x7 = 0
    case neg =>
      have fx7 : (x7 != 0) = true := by rw [bne_iff_ne]; exact tx7
      have HK : Hid (fault xs = 2) := Lib.hid (by
        rw [HFA.out, if_neg (fun e => tx7 (HFO.out.1 e).1.2.2)])
      clear tx7
      go_wp2_with fail
      exact ret_cell (p := 2) (u := 3) (v := 4) rfl rfl rfl (BX5.out.store hz).load (post_err HK.out (by decide) (below_store HB5.out (Nat.le_refl _) _ _ _ _ _ _))
    have fx7 : (x7 != 0) = false := by rw [tx7]; rfl
    have Tx7 := Lib.hid tx7
    clear tx7
    by_cases tl : 24 ≤ A
    case neg =>
      have fl : decide ((A : Int) < 24) = true := decide_eq_true (by omega)
      have HK : Hid (fault xs = 2) := Lib.hid (by
        rw [HFA.out, if_neg (fun e => tl (HFO.out.1 e).2.2.1)])
      go_wp2_with fail
      exact ret_cell (p := 2) (u := 3) (v := 4) rfl rfl rfl (BX5.out.store hz).load (post_err HK.out (by decide) (below_store HB5.out (Nat.le_refl _) _ _ _ _ _ _))
    have fl : decide ((A : Int) < 24) = false := decide_eq_false (by omega)
    by_cases tm : A ≤ 1500
    case neg =>
      have fm : decide (1500 < (A : Int)) = true := decide_eq_true (by omega)
      have HK : Hid (fault xs = 2) := Lib.hid (by
        rw [HFA.out, if_neg (fun e => tm (HFO.out.1 e).2.2.2)])
      go_wp2_with fail
      exact ret_cell (p := 2) (u := 3) (v := 4) rfl rfl rfl (BX5.out.store hz).load (post_err HK.out (by decide) (below_store HB5.out (Nat.le_refl _) _ _ _ _ _ _))
    have fm : decide (1500 < (A : Int)) = false := decide_eq_false (by omega)
    have i20 : (20 : Int) < (n : Int) := by omega
    have i21 : (21 : Int) < (n : Int) := by omega
    have i22 : (22 : Int) < (n : Int) := by omega
    have i23 : (23 : Int) < (n : Int) := by omega
    by_cases tx20 : x20 = 148
    case neg =>
      have fx20 : (x20 != 148) = true := by rw [bne_iff_ne]; exact tx20
      have HK : Hid (fault xs = 2) := Lib.hid (by
        rw [HFA.out, if_neg (fun e => tx20 (HFO.out.1 e).2.1.1)])
      clear tx20
      go_wp2_with fail
      exact ret_cell (p := 2) (u := 3) (v := 4) rfl rfl rfl (BX5.out.store hz).load (post_err HK.out (by decide) (below_store HB5.out (Nat.le_refl _) _ _ _ _ _ _))
    have fx20 : (x20 != 148) = false := by rw [tx20]; rfl
    have Tx20 := Lib.hid tx20
    clear tx20
    by_cases tx21 : x21 = 4
    case neg =>
      have fx21 : (x21 != 4) = true := by rw [bne_iff_ne]; exact tx21
      have HK : Hid (fault xs = 2) := Lib.hid (by
        rw [HFA.out, if_neg (fun e => tx21 (HFO.out.1 e).2.1.2.1)])
      clear tx21
      go_wp2_with fail
      exact ret_cell (p := 2) (u := 3) (v := 4) rfl rfl rfl (BX5.out.store hz).load (post_err HK.out (by decide) (below_store HB5.out (Nat.le_refl _) _ _ _ _ _ _))
    have fx21 : (x21 != 4) = false := by rw [tx21]; rfl
    have Tx21 := Lib.hid tx21
    clear tx21
    by_cases tx22 : x22 = 0
    case neg =>
      have fx22 : (x22 != 0) = true := by rw [bne_iff_ne]; exact tx22
      have HK : Hid (fault xs = 2) := Lib.hid (by
        rw [HFA.out, if_neg (fun e => tx22 (HFO.out.1 e).2.1.2.2.1)])
      clear tx22
      go_wp2_with fail
      exact ret_cell (p := 2) (u := 3) (v := 4) rfl rfl rfl (BX5.out.store hz).load (post_err HK.out (by decide) (below_store HB5.out (Nat.le_refl _) _ _ _ _ _ _))
    have fx22 : (x22 != 0) = false := by rw [tx22]; rfl
    have Tx22 := Lib.hid tx22
    clear tx22
    by_cases tx23 : x23 = 0
    case neg =>
      have fx23 : (x23 != 0) = true := by rw [bne_iff_ne]; exact tx23
      have HK : Hid (fault xs = 2) := Lib.hid (by
        rw [HFA.out, if_neg (fun e => tx23 (HFO.out.1 e).2.1.2.2.2)])
      clear tx23
      go_wp2_with fail
      exact ret_cell (p := 2) (u := 3) (v := 4) rfl rfl rfl (BX5.out.store hz).load (post_err HK.out (by decide) (below_store HB5.out (Nat.le_refl _) _ _ _ _ _ _))
    have fx23 : (x23 != 0) = false := by rw [tx23]; rfl
    have Tx23 := Lib.hid tx23
    clear tx23
    have HFM := Lib.hid (HFO.out.2 ⟨⟨Tx1.out, Tx6.out, Tx7.out⟩, ⟨Tx20.out, Tx21.out, Tx22.out, Tx23.out⟩, tl, tm⟩)
    by_cases tn : A ≤ n
    case neg =>
      have HK : Hid (fault xs = 3) := Lib.hid (by
        rw [HFA.out, if_pos HFM.out, if_pos (by omega)])
      go_wp2_with fail
      exact ret_cell (p := 2) (u := 3) (v := 4) rfl rfl rfl (BX5.out.store hz).load (post_err HK.out (by decide) (below_store HB5.out (Nat.le_refl _) _ _ _ _ _ _))
    obtain ⟨ENS1, ENL⟩ := ENS.out HFM.out tn
    obtain ⟨HBO, HBLn⟩ := HBOD.out tn tl
    have HE1 := Lib.hid ENS1
    have HEL : Hid ((enc (hdr xs) (bod xs)).length = A) := Lib.hid (by rw [enc_len]; exact ENL)
    have HENL := Lib.hid ENL
    have HTA : Hid ((xs.take A).length = A) := Lib.hid (by rw [List.length_take, HX.out]; omega)
    clear ENS1 ENL
    by_cases hcH : c = 24
    · have hA0 : A = 24 := by omega
      subst hcH
      subst hA0
      have BSB : Hid (∀ W, Below w.heap.size w W → Bs W (some ⟨b, off, none⟩) (bod xs)) := Lib.hid (fun W hW => ⟨.inl (List.eq_nil_of_length_eq_zero HBLn), isB_bod HB.out.2⟩)
      have HBL : Hid ((bod xs).length = 0) := Lib.hid (by rw [HBLn])
      clear HBO HBLn
      obtain ⟨sm, hsm⟩ : ∃ sm, sm = SameB (enc (hdr xs) (bod xs)) (xs.take 24) := ⟨_, rfl⟩
      have HSM := Lib.hid hsm
      clear hsm
      cases sm with
      | false =>
        have hne : ¬ enc (hdr xs) (bod xs) = xs.take 24 := fun e => by have := HSM.out; unfold SameB at this; rw [decide_eq_true e] at this; cases this
        have HK : Hid (fault xs = 4) := Lib.hid (by rw [HFA.out, if_pos HFM.out, if_neg (by omega), if_neg (fun e => hne (HE1.out.2 e))])
        clear hne
        go_wp2_with (first
          | ((with_reducible refine wpList_app_bs rfl (.tmp 149) (.tmp 153) rfl w5.heap.size (some ⟨w5.heap.size, 0, none⟩) 0 0 [] rfl (Ow.empty w5 (Nat.le_refl _)) (some ⟨b, off, none⟩) 0 0 (bod xs) rfl HBL.out (BSB.out _ (HB5.out.alloc HB5.out.size _)) (fun e => by cases e) (by omega) w5 ((Below.refl w5.heap.size w5).alloc (Nat.le_refl _) _).size ((Below.refl _ w5).alloc (Nat.le_refl _) _) ?_); intro a6 cap6 w6 OW6 hb6; rw [Nat.zero_add, List.nil_append] at OW6; have HB6 := Lib.hid hb6; have HG6 := Lib.hid (HG5.out.below hb6 HG5.out.lt); have BX6 := Lib.hid (BX5.out.below hb6 BX5.out.lt); obtain ⟨d0, d1, d2, d3, d4, d5⟩ := HG6.out.cells; clear hb6)
          | (go_at_call 11; refine (rEncode (hdr xs) a6 _ cap6 (bod xs) _ HOK.out HBL.out (OW6.out.bs (isB_bod HB.out.2)) OW6.out.nil (by rw [← HBL.out, HENL.out]; exact tm)).mono ?_; rintro e w7 ⟨v, rfl, ⟨g7, c7, rfl, hg7, -, hbs7, -⟩, hb7⟩; rw [HEL.out]; have HBS7 := Lib.hid hbs7; have HB7 := Lib.hid hb7; have HG7 := Lib.hid (HG6.out.keep hb7); have BX7 := Lib.hid (BX6.out.keep hb7); clear hg7 hbs7 hb7)
          | (go_at_call 16; refine (rSame _ _ 24 24 c7 24 (enc (hdr xs) (bod xs)) (xs.take 24) _ HEL.out HTA.out (by omega) HBS7.out (bs_take (bs_below HB.out (HB5.out.trans ((HB6.out.trans (HB7.out.mono HB6.out.size)).mono HB5.out.size))) 24)).mono ?_; rintro e w8 ⟨rfl, hb8⟩; rw [← HSM.out]; have HB8 := Lib.hid hb8; have HG8 := Lib.hid (HG7.out.keep hb8); have BX8 := Lib.hid (BX7.out.keep hb8); obtain ⟨g0, g1, g2, g3, g4, g5⟩ := HG8.out.cells; obtain ⟨b0, b1, b2, b3, b4, b5⟩ := BX8.out.cells; have fz8 := BX8.out.frozen; clear hb8))
        exact ret_cell (p := 2) (u := 3) (v := 4) rfl rfl rfl (BX8.out.store hz).load (post_err HK.out (by decide) (below_store ((HB5.out.trans ((HB6.out.trans (HB7.out.mono HB6.out.size)).mono HB5.out.size)).trans (HB8.out.mono (HB5.out.trans ((HB6.out.trans (HB7.out.mono HB6.out.size)).mono HB5.out.size)).size)) (Nat.le_refl _) _ _ _ _ _ _))
      | true =>
        have hqe : enc (hdr xs) (bod xs) = xs.take 24 := of_decide_eq_true HSM.out.symm
        have HK : Hid (fault xs = 0) := Lib.hid (by rw [HFA.out, if_pos HFM.out, if_neg (by omega), if_pos (HE1.out.1 hqe)])
        clear hqe
        go_wp2_with (first
          | ((with_reducible refine wpList_app_bs rfl (.tmp 149) (.tmp 153) rfl w5.heap.size (some ⟨w5.heap.size, 0, none⟩) 0 0 [] rfl (Ow.empty w5 (Nat.le_refl _)) (some ⟨b, off, none⟩) 0 0 (bod xs) rfl HBL.out (BSB.out _ (HB5.out.alloc HB5.out.size _)) (fun e => by cases e) (by omega) w5 ((Below.refl w5.heap.size w5).alloc (Nat.le_refl _) _).size ((Below.refl _ w5).alloc (Nat.le_refl _) _) ?_); intro a6 cap6 w6 OW6 hb6; rw [Nat.zero_add, List.nil_append] at OW6; have HB6 := Lib.hid hb6; have HG6 := Lib.hid (HG5.out.below hb6 HG5.out.lt); have BX6 := Lib.hid (BX5.out.below hb6 BX5.out.lt); obtain ⟨d0, d1, d2, d3, d4, d5⟩ := HG6.out.cells; clear hb6)
          | (go_at_call 11; refine (rEncode (hdr xs) a6 _ cap6 (bod xs) _ HOK.out HBL.out (OW6.out.bs (isB_bod HB.out.2)) OW6.out.nil (by rw [← HBL.out, HENL.out]; exact tm)).mono ?_; rintro e w7 ⟨v, rfl, ⟨g7, c7, rfl, hg7, -, hbs7, -⟩, hb7⟩; rw [HEL.out]; have HBS7 := Lib.hid hbs7; have HB7 := Lib.hid hb7; have HG7 := Lib.hid (HG6.out.keep hb7); have BX7 := Lib.hid (BX6.out.keep hb7); clear hg7 hbs7 hb7)
          | (go_at_call 16; refine (rSame _ _ 24 24 c7 24 (enc (hdr xs) (bod xs)) (xs.take 24) _ HEL.out HTA.out (by omega) HBS7.out (bs_take (bs_below HB.out (HB5.out.trans ((HB6.out.trans (HB7.out.mono HB6.out.size)).mono HB5.out.size))) 24)).mono ?_; rintro e w8 ⟨rfl, hb8⟩; rw [← HSM.out]; have HB8 := Lib.hid hb8; have HG8 := Lib.hid (HG7.out.keep hb8); have BX8 := Lib.hid (BX7.out.keep hb8); obtain ⟨g0, g1, g2, g3, g4, g5⟩ := HG8.out.cells; obtain ⟨b0, b1, b2, b3, b4, b5⟩ := BX8.out.cells; have fz8 := BX8.out.frozen; clear hb8))
        have hb8 := ((HB5.out.trans ((HB6.out.trans (HB7.out.mono HB6.out.size)).mono HB5.out.size)).trans (HB8.out.mono (HB5.out.trans ((HB6.out.trans (HB7.out.mono HB6.out.size)).mono HB5.out.size)).size))
        have e1 : decH xs = hdr xs := by unfold decH; rw [if_pos HK.out]
        have e2 : decB xs = bod xs := by unfold decB; rw [if_pos HK.out]
        refine ret_cell (p := 2) (u := 3) (v := 4) rfl rfl rfl (BX8.out.store (hdr xs)).load ?_
        unfold DPost
        rw [e1, e2, HK.out]
        have sb6 : SlB w.heap.size w6 (.slice a6 (bod xs).length cap6) (bod xs) := ⟨a6, cap6, rfl, OW6.out.bs (isB_bod HB.out.2), (fun e => by have := OW6.out.nil e; rw [HBL.out]; exact this), fun ad e hl => by obtain ⟨g', eg, hg', _⟩ := OW6.out.og (by have := HBL.out; omega); rw [e] at eg; cases eg; show g' ≠ _; have := BX5.out.lt; omega⟩
        have q := (((sb6.keep (fun g _ hg => HB7.out.block g hg)).keep (fun g _ hg => HB8.out.block g hg)).keep (fun g hg _ => store_block (v0 := .int .u32 (hdr xs).src) (v1 := .int .u32 (hdr xs).dst) (v2 := .int .u8 (hdr xs).proto) (v3 := .int .u8 (hdr xs).ttl) (v4 := .int .u16 (hdr xs).id) (v5 := .bool (hdr xs).alert) hg)).sl
        rw [HBL.out] at q
        exact ⟨_, rfl, q, below_store hb8 (Nat.le_refl _) _ _ _ _ _ _⟩
    · have BSB : Hid (∀ W, Below w.heap.size w W → Bs W (some ⟨b, off + 24, none⟩) (bod xs)) := Lib.hid (fun W hW => by rw [HBO]; exact bs_take (bs_drop (bs_below HB.out hW) 24) (A - 24))
      have HBL : Hid ((bod xs).length = (A - 24)) := Lib.hid (by rw [HBLn])
      clear HBO HBLn
      obtain ⟨sm, hsm⟩ : ∃ sm, sm = SameB (enc (hdr xs) (bod xs)) (xs.take A) := ⟨_, rfl⟩
      have HSM := Lib.hid hsm
      clear hsm
      cases sm with
      | false =>
        have hne : ¬ enc (hdr xs) (bod xs) = xs.take A := fun e => by have := HSM.out; unfold SameB at this; rw [decide_eq_true e] at this; cases this
        have HK : Hid (fault xs = 4) := Lib.hid (by rw [HFA.out, if_pos HFM.out, if_neg (by omega), if_neg (fun e => hne (HE1.out.2 e))])
        clear hne
        go_wp2_with (first
          | ((with_reducible refine wpList_app_bs rfl (.tmp 149) (.tmp 153) rfl w5.heap.size (some ⟨w5.heap.size, 0, none⟩) 0 0 [] rfl (Ow.empty w5 (Nat.le_refl _)) (some ⟨b, off + 24, none⟩) (A - 24) (c - 24) (bod xs) rfl HBL.out (BSB.out _ (HB5.out.alloc HB5.out.size _)) (fun e => by cases e) (by omega) w5 ((Below.refl w5.heap.size w5).alloc (Nat.le_refl _) _).size ((Below.refl _ w5).alloc (Nat.le_refl _) _) ?_); intro a6 cap6 w6 OW6 hb6; rw [Nat.zero_add, List.nil_append] at OW6; have HB6 := Lib.hid hb6; have HG6 := Lib.hid (HG5.out.below hb6 HG5.out.lt); have BX6 := Lib.hid (BX5.out.below hb6 BX5.out.lt); obtain ⟨d0, d1, d2, d3, d4, d5⟩ := HG6.out.cells; clear hb6)
          | (go_at_call 11; refine (rEncode (hdr xs) a6 _ cap6 (bod xs) _ HOK.out HBL.out (OW6.out.bs (isB_bod HB.out.2)) OW6.out.nil (by rw [← HBL.out, HENL.out]; exact tm)).mono ?_; rintro e w7 ⟨v, rfl, ⟨g7, c7, rfl, hg7, -, hbs7, -⟩, hb7⟩; rw [HEL.out]; have HBS7 := Lib.hid hbs7; have HB7 := Lib.hid hb7; have HG7 := Lib.hid (HG6.out.keep hb7); have BX7 := Lib.hid (BX6.out.keep hb7); clear hg7 hbs7 hb7)
          | (go_at_call 16; refine (rSame _ _ A A c7 c (enc (hdr xs) (bod xs)) (xs.take A) _ HEL.out HTA.out (by omega) HBS7.out (bs_take (bs_below HB.out (HB5.out.trans ((HB6.out.trans (HB7.out.mono HB6.out.size)).mono HB5.out.size))) A)).mono ?_; rintro e w8 ⟨rfl, hb8⟩; rw [← HSM.out]; have HB8 := Lib.hid hb8; have HG8 := Lib.hid (HG7.out.keep hb8); have BX8 := Lib.hid (BX7.out.keep hb8); obtain ⟨g0, g1, g2, g3, g4, g5⟩ := HG8.out.cells; obtain ⟨b0, b1, b2, b3, b4, b5⟩ := BX8.out.cells; have fz8 := BX8.out.frozen; clear hb8))
        exact ret_cell (p := 2) (u := 3) (v := 4) rfl rfl rfl (BX8.out.store hz).load (post_err HK.out (by decide) (below_store ((HB5.out.trans ((HB6.out.trans (HB7.out.mono HB6.out.size)).mono HB5.out.size)).trans (HB8.out.mono (HB5.out.trans ((HB6.out.trans (HB7.out.mono HB6.out.size)).mono HB5.out.size)).size)) (Nat.le_refl _) _ _ _ _ _ _))
      | true =>
        have hqe : enc (hdr xs) (bod xs) = xs.take A := of_decide_eq_true HSM.out.symm
        have HK : Hid (fault xs = 0) := Lib.hid (by rw [HFA.out, if_pos HFM.out, if_neg (by omega), if_pos (HE1.out.1 hqe)])
        clear hqe
        go_wp2_with (first
          | ((with_reducible refine wpList_app_bs rfl (.tmp 149) (.tmp 153) rfl w5.heap.size (some ⟨w5.heap.size, 0, none⟩) 0 0 [] rfl (Ow.empty w5 (Nat.le_refl _)) (some ⟨b, off + 24, none⟩) (A - 24) (c - 24) (bod xs) rfl HBL.out (BSB.out _ (HB5.out.alloc HB5.out.size _)) (fun e => by cases e) (by omega) w5 ((Below.refl w5.heap.size w5).alloc (Nat.le_refl _) _).size ((Below.refl _ w5).alloc (Nat.le_refl _) _) ?_); intro a6 cap6 w6 OW6 hb6; rw [Nat.zero_add, List.nil_append] at OW6; have HB6 := Lib.hid hb6; have HG6 := Lib.hid (HG5.out.below hb6 HG5.out.lt); have BX6 := Lib.hid (BX5.out.below hb6 BX5.out.lt); obtain ⟨d0, d1, d2, d3, d4, d5⟩ := HG6.out.cells; clear hb6)
          | (go_at_call 11; refine (rEncode (hdr xs) a6 _ cap6 (bod xs) _ HOK.out HBL.out (OW6.out.bs (isB_bod HB.out.2)) OW6.out.nil (by rw [← HBL.out, HENL.out]; exact tm)).mono ?_; rintro e w7 ⟨v, rfl, ⟨g7, c7, rfl, hg7, -, hbs7, -⟩, hb7⟩; rw [HEL.out]; have HBS7 := Lib.hid hbs7; have HB7 := Lib.hid hb7; have HG7 := Lib.hid (HG6.out.keep hb7); have BX7 := Lib.hid (BX6.out.keep hb7); clear hg7 hbs7 hb7)
          | (go_at_call 16; refine (rSame _ _ A A c7 c (enc (hdr xs) (bod xs)) (xs.take A) _ HEL.out HTA.out (by omega) HBS7.out (bs_take (bs_below HB.out (HB5.out.trans ((HB6.out.trans (HB7.out.mono HB6.out.size)).mono HB5.out.size))) A)).mono ?_; rintro e w8 ⟨rfl, hb8⟩; rw [← HSM.out]; have HB8 := Lib.hid hb8; have HG8 := Lib.hid (HG7.out.keep hb8); have BX8 := Lib.hid (BX7.out.keep hb8); obtain ⟨g0, g1, g2, g3, g4, g5⟩ := HG8.out.cells; obtain ⟨b0, b1, b2, b3, b4, b5⟩ := BX8.out.cells; have fz8 := BX8.out.frozen; clear hb8))
        have hb8 := ((HB5.out.trans ((HB6.out.trans (HB7.out.mono HB6.out.size)).mono HB5.out.size)).trans (HB8.out.mono (HB5.out.trans ((HB6.out.trans (HB7.out.mono HB6.out.size)).mono HB5.out.size)).size))
        have e1 : decH xs = hdr xs := by unfold decH; rw [if_pos HK.out]
        have e2 : decB xs = bod xs := by unfold decB; rw [if_pos HK.out]
        refine ret_cell (p := 2) (u := 3) (v := 4) rfl rfl rfl (BX8.out.store (hdr xs)).load ?_
        unfold DPost
        rw [e1, e2, HK.out]
        have sb6 : SlB w.heap.size w6 (.slice a6 (bod xs).length cap6) (bod xs) := ⟨a6, cap6, rfl, OW6.out.bs (isB_bod HB.out.2), (fun e => by have := OW6.out.nil e; rw [HBL.out]; exact this), fun ad e hl => by obtain ⟨g', eg, hg', _⟩ := OW6.out.og (by have := HBL.out; omega); rw [e] at eg; cases eg; show g' ≠ _; have := BX5.out.lt; omega⟩
        have q := (((sb6.keep (fun g _ hg => HB7.out.block g hg)).keep (fun g _ hg => HB8.out.block g hg)).keep (fun g hg _ => store_block (v0 := .int .u32 (hdr xs).src) (v1 := .int .u32 (hdr xs).dst) (v2 := .int .u8 (hdr xs).proto) (v3 := .int .u8 (hdr xs).ttl) (v4 := .int .u16 (hdr xs).id) (v5 := .bool (hdr xs).alert) hg)).sl
        rw [HBL.out] at q
        exact ⟨_, rfl, q, below_store hb8 (Nat.le_refl _) _ _ _ _ _ _⟩
end Go.Proofs.Ythmejokjbkkfbaa
