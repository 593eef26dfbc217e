/- Contracts of package ip: Decode, where nothing is wrong. -/
import Derived.Test.YthmejokjbkkfbaaIi
import Derived.Test.YthmejokjbkkfbaaRh
import Derived.Test.YthmejokjbkkfbaaJf
namespace Go.Proofs.Ythmejokjbkkfbaa
set_option linter.unusedVariables false
open Go.RowKit

theorem hev {a : Act} {t : Nat} {v : Value} (h : a.tmps[t]?.getD undef = v) : a.eval (.tmp t) = v := by simpa [Act.eval] using h
theorem hstore_other {W : World} {B g : Nat} {h : Hdr} (hne : B ≠ g) (k : HBox W B h) {v0 v1 v2 v3 v4 v5 : Value} : HBox ((((((W.setCell ⟨g, 0, none⟩ v0).setCell ⟨g, 1, none⟩ v1).setCell ⟨g, 2, none⟩ v2).setCell ⟨g, 3, none⟩ v3).setCell ⟨g, 4, none⟩ v4).setCell ⟨g, 5, none⟩ v5) B h := by
  unfold HBox
  rw [heap_setCell_other _ _ _ _ hne, heap_setCell_other _ _ _ _ hne, heap_setCell_other _ _ _ _ hne, heap_setCell_other _ _ _ _ hne, heap_setCell_other _ _ _ _ hne, heap_setCell_other _ _ _ _ hne]
  exact k
theorem store_block {W : World} {B g : Nat} (hne : g ≠ B) {v0 v1 v2 v3 v4 v5 : Value} : ((((((W.setCell ⟨B, 0, none⟩ v0).setCell ⟨B, 1, none⟩ v1).setCell ⟨B, 2, none⟩ v2).setCell ⟨B, 3, none⟩ v3).setCell ⟨B, 4, none⟩ v4).setCell ⟨B, 5, none⟩ v5).heap[g]? = W.heap[g]? := by
  rw [heap_setCell_other _ _ _ _ hne, heap_setCell_other _ _ _ _ hne, heap_setCell_other _ _ _ _ hne, heap_setCell_other _ _ _ _ hne, heap_setCell_other _ _ _ _ hne, heap_setCell_other _ _ _ _ hne]
/-- What each operation leaves, where a header is put together. -/
def dV (b off n c B1 : Nat) (x0 : Int) (h : Hdr) : Nat → Value → List Value → World → Prop
  | 0, v, _, _ => v = .int .u32 h.src
  | 1, v, _, _ => v = .int .u32 h.dst
  | 2, v, _, _ => v = .slice (some ⟨b, off, none⟩) n c
  | 3, v, _, _ => v = .pointer (some ⟨b, off + 9, none⟩)
  | 4, v, _, _ => v = .int .u8 h.proto
  | 5, v, _, _ => v = .slice (some ⟨b, off, none⟩) n c
  | 6, v, _, _ => v = .pointer (some ⟨b, off + 8, none⟩)
  | 7, v, _, _ => v = .int .u8 h.ttl
  | 8, v, _, _ => v = .slice (some ⟨b, off, none⟩) n c
  | 9, v, _, _ => v = .slice (some ⟨b, off + 4, none⟩) (n - 4) (c - 4)
  | 10, v, _, _ => v = .int .u16 h.id
  | 11, v, _, _ => v = .slice (some ⟨b, off, none⟩) n c
  | 12, v, _, _ => v = .pointer (some ⟨b, off, none⟩)
  | 13, v, _, _ => v = .int .u8 x0
  | 14, v, _, _ => v = .bool h.alert
  | 15, v, _, _ => v = .agg #[.int .u32 h.src, .int .u32 h.dst, .int .u8 h.proto, .int .u8 h.ttl, .int .u16 h.id, .bool h.alert]
  | 16, v, _, w => ∃ g, v = .pointer (some ⟨g, 0, none⟩) ∧ B1 ≤ g ∧ ∃ h', HBox w g h'
  | 17, _, us, w => ∃ g, us.head? = some (.pointer (some ⟨g, 0, none⟩)) ∧ B1 ≤ g ∧ HBox w g h
  | _, _, _, _ => True
def dD : Nat → List Nat
  | 3 => [2] | 4 => [3] | 6 => [5] | 7 => [6] | 9 => [8] | 10 => [9] | 12 => [11] | 13 => [12] | 14 => [13] | 15 => [0, 1, 4, 7, 10, 14] | 17 => [16, 15] | _ => []
def dR (B1 : Nat) (w w' : World) : Prop := Below B1 w w' ∧ ∀ g h, HBox w g h → ∃ h', HBox w' g h'
theorem dR_of {B1 : Nat} {w w' : World} (h : Below w.heap.size w w') (hB : B1 ≤ w.heap.size) : dR B1 w w' := ⟨h.mono hB, fun g h' k => ⟨h', k.keep h⟩⟩
theorem dV_stable {b off n c B1 : Nat} {x0 : Int} {h : Hdr} {i : Nat} {v : Value} {us : List Value} {w w' : World} (hi : i ≠ 17) (hr : dR B1 w w') (hv : dV b off n c B1 x0 h i v us w) : dV b off n c B1 x0 h i v us w' := by
  unfold dV at hv ⊢
  split at hv
  all_goals first
    | exact hv
    | (obtain ⟨g, e, hg, h', hb⟩ := hv; exact ⟨g, e, hg, hr.2 g h' hb⟩)
    | exact absurd rfl hi
/-- A slice of bytes that don't lie in block B. -/
def SlB (B : Nat) (w : World) (v : Value) (xs : List Int) : Prop := ∃ a c, v = .slice a xs.length c ∧ Bs w a xs ∧ (a = none → xs.length = 0 ∧ c = 0) ∧ ∀ ad, a = some ad → 0 < xs.length → ad.block ≠ B
theorem SlB.sl {B : Nat} {w : World} {v : Value} {xs : List Int} (h : SlB B w v xs) : Sl w v xs := by
  obtain ⟨a, c, e, hb, hn, _⟩ := h
  exact ⟨a, c, e, hb, hn⟩
theorem SlB.keep {B : Nat} {w w' : World} {v : Value} {xs : List Int} (h : SlB B w v xs) (hk : ∀ g, g ≠ B → g < w.heap.size → w'.heap[g]? = w.heap[g]?) : SlB B w' v xs := by
  obtain ⟨a, c, e, hb, hn, hB⟩ := h
  refine ⟨a, c, e, ⟨?_, hb.2⟩, hn, hB⟩
  rcases hb.1 with h1 | ⟨b, off, e', hc⟩
  · exact .inl h1
  · refine .inr ⟨b, off, e', fun k hk' => ?_⟩
    have hlt := cell_lt (hc k hk')
    have := hk b (hB _ e' (by omega)) hlt
    rw [← hc k hk']
    simp only [World.cell?, this]
theorem slB_of {B C : Nat} {w : World} {v : Value} {xs : List Int} (h : (v = .slice none 0 0 ∧ xs = []) ∨ Fs w C v xs) (hB : B < C) : SlB B w v xs := by
  rcases h with ⟨rfl, rfl⟩ | ⟨g, c, e, hg, _, hb, _⟩
  · exact ⟨none, 0, rfl, ⟨.inl rfl, isB_nil⟩, fun _ => ⟨rfl, rfl⟩, fun ad e => by cases e⟩
  · exact ⟨_, c, e, hb, (fun e => by cases e), fun ad e _ => by cases e; show g ≠ B; omega⟩
def eV (b off n c B : Nat) (x0 : Int) (H : Nat) (y : Int) (h : Hdr) (xs : List Int) : Nat → Value → List Value → World → Prop
  | 0, v, _, _ => v = .agg #[.int .u32 h.src, .int .u32 h.dst, .int .u8 h.proto, .int .u8 h.ttl, .int .u16 h.id, .bool h.alert]
  | 1, v, _, _ => v = .slice (some ⟨b, off, none⟩) n c
  | 2, v, _, _ => v = .slice (some ⟨b, off, none⟩) n c
  | 3, v, _, _ => v = .pointer (some ⟨b, off, none⟩)
  | 4, v, _, _ => v = .int .u8 x0
  | 5, v, _, _ => v = .int .i64 H
  | 6, v, _, _ => v = .slice (some ⟨b, off, none⟩) n c
  | 7, v, _, _ => v = .slice (some ⟨b, off + 2, none⟩) (n - 2) (c - 2)
  | 8, v, _, _ => v = .int .u16 y
  | 9, v, _, w => SlB B w v xs
  | 10, v, _, w => ∃ g v9, v = .slice (some ⟨g, 0, none⟩) 1 1 ∧ g ≠ B ∧ w.cell? ⟨g, 0, none⟩ = some v9 ∧ SlB B w v9 xs
  | 11, v, _, w => SlB B w v xs
  | 12, _, _, w => HBox w B h
  | 13, v, _, w => SlB B w v xs
  | 14, v, _, _ => v = .int .i64 0
  | _, _, _, _ => True
def eD : Nat → List Nat
  | 3 => [2] | 4 => [3] | 5 => [4] | 7 => [6] | 8 => [7] | 9 => [1, 5, 8] | 10 => [9] | 11 => [10] | 12 => [0] | 13 => [11] | _ => []
def eR (B j : Nat) (w w' : World) : Prop := (∀ g, g ≠ B → g < w.heap.size → w'.heap[g]? = w.heap[g]?) ∧ (j = 12 ∨ Below w.heap.size w w')
theorem eR_of {B j : Nat} {w w' : World} (h : Below w.heap.size w w') : eR B j w w' := ⟨fun g _ hg => h.block g hg, .inr h⟩
theorem eV_stable {b off n c B : Nat} {x0 : Int} {H : Nat} {y : Int} {h : Hdr} {xs : List Int} {i j : Nat} {v : Value} {us : List Value} {w w' : World} (hij : i ≠ j) (hr : eR B j w w') (hv : eV b off n c B x0 H y h xs i v us w) : eV b off n c B x0 H y h xs i v us w' := by
  unfold eV at hv ⊢
  split at hv
  all_goals first
    | exact hv
    | exact hv.keep hr.1
    | (obtain ⟨g, v9, e, hg, hc, hs⟩ := hv
       refine ⟨g, v9, e, hg, ?_, hs.keep hr.1⟩
       have hk := hr.1 g hg (cell_lt hc)
       rw [← hc]
       simp only [World.cell?, hk])
    | (rcases hr.2 with e | hb
       · exact absurd e.symm hij
       · exact HBox.keep hv hb)
set_option maxHeartbeats 2000000 in
theorem iDecode_ok (b off n c : Nat) (xs : List Int) (w : World) (hx : xs.length = n) (hn : n ≤ 1000000) (hnc : n ≤ c) (hb : Bs w (some ⟨b, off, none⟩) xs) (hk : fault xs = 0) :
    Calls Try.prog 12 #[.slice (some ⟨b, off, none⟩) n c] w fun e w' => ∃ v, e = .returned (.tuple #[.agg #[.int .u32 (hdr xs).src, .int .u32 (hdr xs).dst, .int .u8 (hdr xs).proto, .int .u8 (hdr xs).ttl, .int .u16 (hdr xs).id, .bool (hdr xs).alert], v, .int .i64 0]) ∧ Sl w' v (bod xs) ∧ Below w.heap.size w w' := by
  have HG := Lib.hid (good_of hk)
  have h20 : 20 ≤ n := by rw [← hx]; exact HG.out.len20
  have HX := Lib.hid hx
  have HB := Lib.hid hb
  have HK := Lib.hid hk
  have HBX := Lib.hid (HBox.new w hz)
  obtain ⟨x0, hx0⟩ : ∃ x, x = xs.getD 0 0 := ⟨_, rfl⟩
  obtain ⟨x8, hx8⟩ : ∃ x, x = xs.getD 8 0 := ⟨_, rfl⟩
  obtain ⟨x9, hx9⟩ : ∃ x, x = xs.getD 9 0 := ⟨_, rfl⟩
  have CELL : Hid (∀ W, Below w.heap.size w W → W.cell? ⟨b, off, none⟩ = some (.int .u8 x0) ∧ W.cell? ⟨b, off + 8, none⟩ = some (.int .u8 x8) ∧ W.cell? ⟨b, off + 9, none⟩ = some (.int .u8 x9)) := Lib.hid (fun W hW => by
    rw [hx0, hx8, hx9]
    exact ⟨bs_cell (bs_below hb hW) (k := 0) (by omega), bs_cell (bs_below hb hW) (k := 8) (by omega), bs_cell (bs_below hb hW) (k := 9) (by omega)⟩)
  have OFK : Hid (∀ W (k : Nat), k + 4 ≤ n → Below w.heap.size w W → Calls Try.prog 24 #[.slice (some ⟨b, off + k, none⟩) 4 (c - k)] W fun e w' => e = .returned (.tuple #[.int .u32 (ofv ((xs.drop k).take 4)), .int .i64 0]) ∧ W = w') := Lib.hid (fun W k hk hW =>
    aOf _ 4 _ ((xs.drop k).take 4) W (by rw [List.length_take, List.length_drop]; omega) (by omega) (bs_take (bs_drop (bs_below hb hW) k) 4))
  have NUM : Hid (∀ W (k : Nat), k + 2 ≤ n → Below w.heap.size w W → Calls Try.prog 25 #[.slice (some ⟨b, off + k, none⟩) (n - k) (c - k)] W fun e w' => e = .returned (.int .u16 (num xs k)) ∧ ∃ q, W.drewN q = w') := Lib.hid (fun W k hk hW => by
    have := iNum (some ⟨b, off + k, none⟩) (n - k) (c - k) (xs.drop k) W (by rw [List.length_drop, hx]) (by omega) (bs_drop (bs_below hb hW) k)
    rwa [num_drop] at this)
  have i9 : (9 : Int) < (n : Int) := by omega
  have i8 : (8 : Int) < (n : Int) := by omega
  have i0 : (0 : Int) < (n : Int) := by omega
  have j0 : 0 < n := by omega
  have j4 : 4 ≤ n := by omega
  have i4 : (4 : Int) ≤ (n : Int) := by omega
  have jc : n ≤ c := hnc
  have jc4 : (4 : Int) ≤ (c : Int) := by omega
  have icn : (n : Int) ≤ (c : Int) := by omega
  have j4c : 4 < c := by omega
  have H0 := Lib.hid hx0
  have H8 := Lib.hid hx8
  have H9 := Lib.hid hx9
  clear hx hb hk hx0 hx8 hx9
  go_enter Try.func12, Try.ntmps12
  go_wp2_with (first
    | (go_at_call 23; refine (iFault _ n c xs _ HX.out hn hnc (bs_below HB.out ((Below.refl _ w).alloc (Nat.le_refl _) _))).mono ?_; rintro e w1 ⟨rfl, hb1⟩; rw [HK.out]; have BX1 := Lib.hid (HBX.out.keep hb1); have HB1 : Hid (Below w.heap.size w w1) := Lib.hid (((Below.refl _ w).alloc (Nat.le_refl _) _).trans (hb1.mono (by simp))); clear hb1; obtain ⟨k0, k8, k9⟩ := CELL.out _ HB1.out)
    | (go_at_call 24; refine (OFK.out _ _ (by omega) HB1.out).mono ?_; rintro e w2 ⟨rfl, rfl⟩))
  have HR : Hid (hdr xs = ⟨ofv ((xs.drop 12).take 4), ofv ((xs.drop 16).take 4), xs.getD 9 0, xs.getD 8 0, num xs 4, al0 xs⟩) := Lib.hid rfl
  clear k0 k8 k9
  refine wp_region_each2 (dV b off n c w1.heap.size x0 (hdr xs)) (fun W => Below w1.heap.size w1 W) (fun _ A B => dR w1.heap.size A B) dD [29, 30, 31, 32, 33, 34, 35, 36, 37, 38, 39, 40, 41, 42, 43, 44, 10] (by kernel_rfl) (by kernel_rfl) (by kernel_rfl) (Below.refl _ w1).drew ?hst
    ⟨?_, ?_, ?_, ?_, ?_, ?_, ?_, ?_, ?_, ?_, ?_, ?_, ?_, ?_, ?_, ?_, ?_, ?_, trivial⟩ ?hend
  case hst =>
    intro i j oi oj v us A B hoi hoj hij hw hSA hr hv
    by_cases h17 : i = 17
    · subst h17
      exfalso
      have hj : j < 18 := (Array.getElem?_eq_some_iff.1 hoj).1
      have hc : Option.map (fun o => (List.range 17).all (waits o)) (some oi) = some true := by rw [← hoi]; kernel_rfl
      have hall : (List.range 17).all (waits oi) = true := by simpa using hc
      have h1 := List.all_eq_true.1 hall j (List.mem_range.2 (by omega))
      rw [hw] at h1
      cases h1
    · exact dV_stable h17 hr hv
  case refine_1 =>
    intro a w2 hS h0 hd
    have hsz : w1.heap.size ≤ w2.heap.size := hS.size
    have e6 : a.tmps[6]?.getD undef = .int .u32 (hdr xs).src := ev (h0 6 (by kernel_rfl))
    refine Does2.value (.int .u32 (hdr xs).src) (w' := w2) ?_ ⟨rfl, hS, dR_of (Below.refl _ _) hsz⟩
    clear hS h0 hd hsz
    go_simp
  case refine_2 =>
    intro a w2 hS h0 hd
    have hsz : w1.heap.size ≤ w2.heap.size := hS.size
    have e8 : a.tmps[8]?.getD undef = .int .u32 (hdr xs).dst := ev (h0 8 (by kernel_rfl))
    refine Does2.value (.int .u32 (hdr xs).dst) (w' := w2) ?_ ⟨rfl, hS, dR_of (Below.refl _ _) hsz⟩
    clear hS h0 hd hsz
    go_simp
  case refine_3 =>
    intro a w2 hS h0 hd
    have hsz : w1.heap.size ≤ w2.heap.size := hS.size
    have e0 : a.tmps[0]?.getD undef = .slice (some ⟨b, off, none⟩) n c := ev (h0 0 (by kernel_rfl))
    refine Does2.value (.slice (some ⟨b, off, none⟩) n c) (w' := w2) ?_ ⟨rfl, hS, dR_of (Below.refl _ _) hsz⟩
    clear hS h0 hd hsz
    go_simp
  case refine_4 =>
    intro a w2 hS h0 hd
    have hsz : w1.heap.size ≤ w2.heap.size := hS.size
    have e31 : a.tmps[31]?.getD undef = .slice (some ⟨b, off, none⟩) n c := ev (hd 2 List.mem_cons_self)
    refine Does2.value (.pointer (some ⟨b, off + 9, none⟩)) (w' := w2) ?_ ⟨rfl, hS, dR_of (Below.refl _ _) hsz⟩
    clear hS h0 hd hsz
    go_simp
  case refine_5 =>
    intro a w2 hS h0 hd
    have hsz : w1.heap.size ≤ w2.heap.size := hS.size
    have e32 : a.tmps[32]?.getD undef = .pointer (some ⟨b, off + 9, none⟩) := ev (hd 3 List.mem_cons_self)
    obtain ⟨k0, k8, k9⟩ := CELL.out _ (HB1.out.trans (hS.mono HB1.out.size))
    refine Does2.value (.int .u8 (hdr xs).proto) (w' := w2) ?_ ⟨rfl, hS, dR_of (Below.refl _ _) hsz⟩
    clear hS h0 hd hsz
    rw [H9.out] at k9
    have k9' : w2.cell? ⟨b, off + 9, none⟩ = some (.int .u8 (hdr xs).proto) := k9
    clear k9
    go_simp
  case refine_6 =>
    intro a w2 hS h0 hd
    have hsz : w1.heap.size ≤ w2.heap.size := hS.size
    have e0 : a.tmps[0]?.getD undef = .slice (some ⟨b, off, none⟩) n c := ev (h0 0 (by kernel_rfl))
    refine Does2.value (.slice (some ⟨b, off, none⟩) n c) (w' := w2) ?_ ⟨rfl, hS, dR_of (Below.refl _ _) hsz⟩
    clear hS h0 hd hsz
    go_simp
  case refine_7 =>
    intro a w2 hS h0 hd
    have hsz : w1.heap.size ≤ w2.heap.size := hS.size
    have e34 : a.tmps[34]?.getD undef = .slice (some ⟨b, off, none⟩) n c := ev (hd 5 List.mem_cons_self)
    refine Does2.value (.pointer (some ⟨b, off + 8, none⟩)) (w' := w2) ?_ ⟨rfl, hS, dR_of (Below.refl _ _) hsz⟩
    clear hS h0 hd hsz
    go_simp
  case refine_8 =>
    intro a w2 hS h0 hd
    have hsz : w1.heap.size ≤ w2.heap.size := hS.size
    have e35 : a.tmps[35]?.getD undef = .pointer (some ⟨b, off + 8, none⟩) := ev (hd 6 List.mem_cons_self)
    obtain ⟨k0, k8, k9⟩ := CELL.out _ (HB1.out.trans (hS.mono HB1.out.size))
    refine Does2.value (.int .u8 (hdr xs).ttl) (w' := w2) ?_ ⟨rfl, hS, dR_of (Below.refl _ _) hsz⟩
    clear hS h0 hd hsz
    rw [H8.out] at k8
    have k8' : w2.cell? ⟨b, off + 8, none⟩ = some (.int .u8 (hdr xs).ttl) := k8
    clear k8
    go_simp
  case refine_9 =>
    intro a w2 hS h0 hd
    have hsz : w1.heap.size ≤ w2.heap.size := hS.size
    have e0 : a.tmps[0]?.getD undef = .slice (some ⟨b, off, none⟩) n c := ev (h0 0 (by kernel_rfl))
    refine Does2.value (.slice (some ⟨b, off, none⟩) n c) (w' := w2) ?_ ⟨rfl, hS, dR_of (Below.refl _ _) hsz⟩
    clear hS h0 hd hsz
    go_simp
  case refine_10 =>
    intro a w2 hS h0 hd
    have hsz : w1.heap.size ≤ w2.heap.size := hS.size
    have e37 : a.tmps[37]?.getD undef = .slice (some ⟨b, off, none⟩) n c := ev (hd 8 List.mem_cons_self)
    refine Does2.value (.slice (some ⟨b, off + 4, none⟩) (n - 4) (c - 4)) (w' := w2) ?_ ⟨rfl, hS, dR_of (Below.refl _ _) hsz⟩
    clear hS h0 hd hsz
    go_simp
    omega
  case refine_11 =>
    intro a w2 hS h0 hd
    have hsz : w1.heap.size ≤ w2.heap.size := hS.size
    have e38 : a.tmps[38]?.getD undef = .slice (some ⟨b, off + 4, none⟩) (n - 4) (c - 4) := ev (hd 9 List.mem_cons_self)
    refine Does2.call 25 #[.slice (some ⟨b, off + 4, none⟩) (n - 4) (c - 4)] (w' := w2) ?_ ((NUM.out w2 4 (by omega) (HB1.out.trans (hS.mono HB1.out.size))).mono ?_)
    · clear hS h0 hd hsz
      go_simp
    · rintro e w3 ⟨rfl, q, rfl⟩
      exact ⟨_, rfl, rfl, bdrawn hS q, dR_of (bdrawn (Below.refl _ _) q) hsz⟩
  case refine_12 =>
    intro a w2 hS h0 hd
    have hsz : w1.heap.size ≤ w2.heap.size := hS.size
    have e0 : a.tmps[0]?.getD undef = .slice (some ⟨b, off, none⟩) n c := ev (h0 0 (by kernel_rfl))
    refine Does2.value (.slice (some ⟨b, off, none⟩) n c) (w' := w2) ?_ ⟨rfl, hS, dR_of (Below.refl _ _) hsz⟩
    clear hS h0 hd hsz
    go_simp
  case refine_13 =>
    intro a w2 hS h0 hd
    have hsz : w1.heap.size ≤ w2.heap.size := hS.size
    have e40 : a.tmps[40]?.getD undef = .slice (some ⟨b, off, none⟩) n c := ev (hd 11 List.mem_cons_self)
    refine Does2.value (.pointer (some ⟨b, off, none⟩)) (w' := w2) ?_ ⟨rfl, hS, dR_of (Below.refl _ _) hsz⟩
    clear hS h0 hd hsz
    go_simp
  case refine_14 =>
    intro a w2 hS h0 hd
    have hsz : w1.heap.size ≤ w2.heap.size := hS.size
    have e41 : a.tmps[41]?.getD undef = .pointer (some ⟨b, off, none⟩) := ev (hd 12 List.mem_cons_self)
    obtain ⟨k0, k8, k9⟩ := CELL.out _ (HB1.out.trans (hS.mono HB1.out.size))
    refine Does2.value (.int .u8 x0) (w' := w2) ?_ ⟨rfl, hS, dR_of (Below.refl _ _) hsz⟩
    clear hS h0 hd hsz
    go_simp
  case refine_15 =>
    intro a w2 hS h0 hd
    have hsz : w1.heap.size ≤ w2.heap.size := hS.size
    have e42 : a.tmps[42]?.getD undef = .int .u8 x0 := ev (hd 13 List.mem_cons_self)
    refine Does2.value (.bool (hdr xs).alert) (w' := w2) ?_ ⟨rfl, hS, dR_of (Below.refl _ _) hsz⟩
    clear hS h0 hd hsz
    have e : (x0 == 70) = (hdr xs).alert := by rw [H0.out]; rfl
    go_simp
  case refine_16 =>
    intro a w2 hS h0 hd
    have hsz : w1.heap.size ≤ w2.heap.size := hS.size
    have e29 : a.tmps[29]?.getD undef = .int .u32 (hdr xs).src := ev (hd 0 List.mem_cons_self)
    have e30 : a.tmps[30]?.getD undef = .int .u32 (hdr xs).dst := ev (hd 1 (List.mem_cons_of_mem _ List.mem_cons_self))
    have e33 : a.tmps[33]?.getD undef = .int .u8 (hdr xs).proto := ev (hd 4 (List.mem_cons_of_mem _ (List.mem_cons_of_mem _ List.mem_cons_self)))
    have e36 : a.tmps[36]?.getD undef = .int .u8 (hdr xs).ttl := ev (hd 7 (List.mem_cons_of_mem _ (List.mem_cons_of_mem _ (List.mem_cons_of_mem _ List.mem_cons_self))))
    have e39 : a.tmps[39]?.getD undef = .int .u16 (hdr xs).id := ev (hd 10 (List.mem_cons_of_mem _ (List.mem_cons_of_mem _ (List.mem_cons_of_mem _ (List.mem_cons_of_mem _ List.mem_cons_self)))))
    have e43 : a.tmps[43]?.getD undef = .bool (hdr xs).alert := ev (hd 14 (List.mem_cons_of_mem _ (List.mem_cons_of_mem _ (List.mem_cons_of_mem _ (List.mem_cons_of_mem _ (List.mem_cons_of_mem _ List.mem_cons_self))))))
    refine Does2.value (.agg #[.int .u32 (hdr xs).src, .int .u32 (hdr xs).dst, .int .u8 (hdr xs).proto, .int .u8 (hdr xs).ttl, .int .u16 (hdr xs).id, .bool (hdr xs).alert]) (w' := w2) ?_ ⟨rfl, hS, dR_of (Below.refl _ _) hsz⟩
    clear hS h0 hd hsz
    go_simp
  case refine_17 =>
    intro a w2 hS h0 hd
    have hsz : w1.heap.size ≤ w2.heap.size := hS.size
    refine Does2.value (.pointer (some ⟨w2.heap.size, 0, none⟩)) (w' := w2.alloc (.cells #[.int .u32 0, .int .u32 0, .int .u8 0, .int .u8 0, .int .u16 0, .bool false] 26)) ?_ ⟨⟨_, rfl, hsz, hz, HBox.new w2 hz⟩, hS.alloc hsz _, dR_of ((Below.refl _ w2).alloc (Nat.le_refl _) _) hsz⟩
    clear hS h0 hd hsz
    go_simp
  case refine_18 =>
    intro a w2 hS h0 hd
    have hsz : w1.heap.size ≤ w2.heap.size := hS.size
    obtain ⟨g, e10, hg, h', hb⟩ := hd 16 List.mem_cons_self
    replace e10 := ev e10
    have e44 : a.tmps[44]?.getD undef = .agg #[.int .u32 (hdr xs).src, .int .u32 (hdr xs).dst, .int .u8 (hdr xs).proto, .int .u8 (hdr xs).ttl, .int .u16 (hdr xs).id, .bool (hdr xs).alert] := ev (hd 15 (List.mem_cons_of_mem _ List.mem_cons_self))
    obtain ⟨c0, c1, c2, c3, c4, c5⟩ := hb.cells
    have fz := hb.frozen
    have hs := hb.store (hdr xs)
    have hbl := below_store (Below.refl w1.heap.size w2) hg (.int .u32 (hdr xs).src) (.int .u32 (hdr xs).dst) (.int .u8 (hdr xs).proto) (.int .u8 (hdr xs).ttl) (.int .u16 (hdr xs).id) (.bool (hdr xs).alert)
    refine Does2.skip (w' := ((((((w2.setCell ⟨g, 0, none⟩ (.int .u32 (hdr xs).src)).setCell ⟨g, 1, none⟩ (.int .u32 (hdr xs).dst)).setCell ⟨g, 2, none⟩ (.int .u8 (hdr xs).proto)).setCell ⟨g, 3, none⟩ (.int .u8 (hdr xs).ttl)).setCell ⟨g, 4, none⟩ (.int .u16 (hdr xs).id)).setCell ⟨g, 5, none⟩ (.bool (hdr xs).alert))) ?_ ⟨⟨g, ?_, hg, hs⟩, hS.trans hbl, hbl, fun g' h'' k => ?_⟩
    · clear hS h0 hd hsz hs hbl hb
      go_simp
    · exact congrArg some (hev e10)
    · by_cases hgg : g' = g
      · subst hgg; exact ⟨_, hs⟩
      · exact ⟨h'', hstore_other hgg k⟩
  case hend =>
    intro f w2 hS hV
    obtain ⟨g, e10, hg, hbx⟩ := hV 17 (by decide)
    have e10 : f 10 = .pointer (some ⟨g, 0, none⟩) := Option.some.inj e10
    simp only [putAll, Act.put, List.setIfInBounds_toArray, List.set_cons_zero, List.set_cons_succ, e10]
    have BX2 := Lib.hid (BX1.out.below hS BX1.out.lt)
    have HBX2 := Lib.hid hbx
    have GNE : Hid (g ≠ w.heap.size) := Lib.hid (by have := BX1.out.lt; omega)
    have HB2 : Hid (Below w.heap.size w w2) := Lib.hid (HB1.out.trans (hS.mono HB1.out.size))
    obtain ⟨H, hH⟩ : ∃ H, H = hsz (al0 xs) := ⟨_, rfl⟩
    obtain ⟨A, hA⟩ : ∃ A, A = all0 xs := ⟨_, rfl⟩
    have HX0 : Hid (64 ≤ x0 ∧ x0 ≤ 255 ∧ 4 * (x0 - 64) = (H : Int)) := Lib.hid (by
      rw [H0.out, hH]
      rcases HG.out.first with e | e <;> (unfold al0; rw [e]; decide))
    have hAn : A ≤ n := by rw [hA, ← HX.out]; exact HG.out.lenA
    have hHA : H ≤ A := by rw [hA, hH]; exact HG.out.form.2.2.1
    have hA' : (A : Int) = num xs 2 := by rw [hA]; unfold all0; have := num_bd HB.out.2 2; omega
    have HBOD : Hid (bod xs = (xs.drop H).take (A - H)) := Lib.hid (by rw [hA, hH]; rfl)
    have HBL : Hid ((bod xs).length = A - H) := Lib.hid (by rw [hA, hH]; exact bod_len HG.out.lenA)
    have HHH := Lib.hid hH
    have HHA := Lib.hid hA
    clear hV hS hbx hH hA
    go_wp2_with fail
    refine wp_region_each2 (eV b off n c w.heap.size x0 H (num xs 2) (hdr xs) (bod xs)) (fun W => Below w.heap.size w W ∧ (∃ h', HBox W w.heap.size h') ∧ HBox W g (hdr xs)) (fun j A B => eR w.heap.size j A B) eD [45, 46, 47, 48, 49, 50, 51, 52, 53, 54, 55, 56, 3, 4] (by kernel_rfl) (by kernel_rfl) (by kernel_rfl) ⟨HB2.out.drew, ⟨_, BX2.out⟩, HBX2.out⟩
      (fun i j oi oj v us A B hoi hoj hij hw hSA hr hv => eV_stable hij hr hv)
      ⟨?_, ?_, ?_, ?_, ?_, ?_, ?_, ?_, ?_, ?_, ?_, ?_, ?_, ?_, ?_, trivial⟩ ?hend
    case refine_1 =>
      intro a w3 hS h0 hd
      obtain ⟨hSb, ⟨h', hSB⟩, hSg⟩ := hS
      have e10 : a.tmps[10]?.getD undef = .pointer (some ⟨g, 0, none⟩) := ev (h0 10 (by kernel_rfl))
      refine Does2.value (.agg #[.int .u32 (hdr xs).src, .int .u32 (hdr xs).dst, .int .u8 (hdr xs).proto, .int .u8 (hdr xs).ttl, .int .u16 (hdr xs).id, .bool (hdr xs).alert]) (w' := w3) ?_ ⟨rfl, ⟨hSb, ⟨h', hSB⟩, hSg⟩, eR_of (Below.refl _ _)⟩
      obtain ⟨c0, c1, c2, c3, c4, c5⟩ := hSg.cells
      clear hSb hSB hSg h0 hd
      go_simp
    case refine_2 =>
      intro a w3 hS h0 hd
      obtain ⟨hSb, ⟨h', hSB⟩, hSg⟩ := hS
      have e0 : a.tmps[0]?.getD undef = .slice (some ⟨b, off, none⟩) n c := ev (h0 0 (by kernel_rfl))
      refine Does2.value (.slice (some ⟨b, off, none⟩) n c) (w' := w3) ?_ ⟨rfl, ⟨hSb, ⟨h', hSB⟩, hSg⟩, eR_of (Below.refl _ _)⟩
      clear hSb hSB hSg h0 hd
      go_simp
    case refine_3 =>
      intro a w3 hS h0 hd
      obtain ⟨hSb, ⟨h', hSB⟩, hSg⟩ := hS
      have e0 : a.tmps[0]?.getD undef = .slice (some ⟨b, off, none⟩) n c := ev (h0 0 (by kernel_rfl))
      refine Does2.value (.slice (some ⟨b, off, none⟩) n c) (w' := w3) ?_ ⟨rfl, ⟨hSb, ⟨h', hSB⟩, hSg⟩, eR_of (Below.refl _ _)⟩
      clear hSb hSB hSg h0 hd
      go_simp
    case refine_4 =>
      intro a w3 hS h0 hd
      obtain ⟨hSb, ⟨h', hSB⟩, hSg⟩ := hS
      have e47 : a.tmps[47]?.getD undef = .slice (some ⟨b, off, none⟩) n c := ev (hd 2 List.mem_cons_self)
      refine Does2.value (.pointer (some ⟨b, off, none⟩)) (w' := w3) ?_ ⟨rfl, ⟨hSb, ⟨h', hSB⟩, hSg⟩, eR_of (Below.refl _ _)⟩
      clear hSb hSB hSg h0 hd
      go_simp
    case refine_5 =>
      intro a w3 hS h0 hd
      obtain ⟨hSb, ⟨h', hSB⟩, hSg⟩ := hS
      have e48 : a.tmps[48]?.getD undef = .pointer (some ⟨b, off, none⟩) := ev (hd 3 List.mem_cons_self)
      refine Does2.value (.int .u8 x0) (w' := w3) ?_ ⟨rfl, ⟨hSb, ⟨h', hSB⟩, hSg⟩, eR_of (Below.refl _ _)⟩
      obtain ⟨k0, k8, k9⟩ := CELL.out _ hSb
      clear hSb hSB hSg h0 hd
      go_simp
    case refine_6 =>
      intro a w3 hS h0 hd
      obtain ⟨hSb, ⟨h', hSB⟩, hSg⟩ := hS
      have e49 : a.tmps[49]?.getD undef = .int .u8 x0 := ev (hd 4 List.mem_cons_self)
      refine Does2.call 17 #[.int .u8 x0] (w' := w3) ?_ ((iSize x0 w3 HX0.out.1 HX0.out.2.1).mono ?_)
      · clear hSb hSB hSg h0 hd
        go_simp
      · rintro e w4 ⟨rfl, rfl⟩
        rw [HX0.out.2.2]
        exact ⟨_, rfl, rfl, ⟨hSb, ⟨h', hSB⟩, hSg⟩, eR_of (Below.refl _ _)⟩
    case refine_7 =>
      intro a w3 hS h0 hd
      obtain ⟨hSb, ⟨h', hSB⟩, hSg⟩ := hS
      have e0 : a.tmps[0]?.getD undef = .slice (some ⟨b, off, none⟩) n c := ev (h0 0 (by kernel_rfl))
      refine Does2.value (.slice (some ⟨b, off, none⟩) n c) (w' := w3) ?_ ⟨rfl, ⟨hSb, ⟨h', hSB⟩, hSg⟩, eR_of (Below.refl _ _)⟩
      clear hSb hSB hSg h0 hd
      go_simp
    case refine_8 =>
      intro a w3 hS h0 hd
      obtain ⟨hSb, ⟨h', hSB⟩, hSg⟩ := hS
      have e51 : a.tmps[51]?.getD undef = .slice (some ⟨b, off, none⟩) n c := ev (hd 6 List.mem_cons_self)
      refine Does2.value (.slice (some ⟨b, off + 2, none⟩) (n - 2) (c - 2)) (w' := w3) ?_ ⟨rfl, ⟨hSb, ⟨h', hSB⟩, hSg⟩, eR_of (Below.refl _ _)⟩
      clear hSb hSB hSg h0 hd
      have g2 : 2 ≤ n := by omega
      have g3 : (2 : Int) ≤ (n : Int) := by omega
      have g4 : ¬ c = 2 := by omega
      go_simp
    case refine_9 =>
      intro a w3 hS h0 hd
      obtain ⟨hSb, ⟨h', hSB⟩, hSg⟩ := hS
      have e52 : a.tmps[52]?.getD undef = .slice (some ⟨b, off + 2, none⟩) (n - 2) (c - 2) := ev (hd 7 List.mem_cons_self)
      refine Does2.call 25 #[.slice (some ⟨b, off + 2, none⟩) (n - 2) (c - 2)] (w' := w3) ?_ ((NUM.out w3 2 (by omega) hSb).mono ?_)
      · clear hSb hSB hSg h0 hd
        go_simp
      · rintro e w4 ⟨rfl, q, rfl⟩
        exact ⟨_, rfl, rfl, ⟨bdrawn hSb q, ⟨h', hSB⟩, hSg⟩, eR_of (bdrawn (Below.refl _ _) q)⟩
    case refine_10 =>
      intro a w3 hS h0 hd
      obtain ⟨hSb, ⟨h', hSB⟩, hSg⟩ := hS
      have e46 : a.tmps[46]?.getD undef = .slice (some ⟨b, off, none⟩) n c := ev (hd 1 List.mem_cons_self)
      have e50 : a.tmps[50]?.getD undef = .int .i64 (H : Nat) := ev (hd 5 (List.mem_cons_of_mem _ List.mem_cons_self))
      have e53 : a.tmps[53]?.getD undef = .int .u16 (num xs 2) := ev (hd 8 (List.mem_cons_of_mem _ (List.mem_cons_of_mem _ List.mem_cons_self)))
      have hbs : Bs w3 (some ⟨b, off + H, none⟩) (bod xs) := by
        have := bs_take (bs_drop (bs_below HB.out hSb) H) (A - H)
        rw [HBOD.out]; exact this
      have hlen : (bod xs).length = A - H := HBL.out
      have hbB : (bod xs).length = 0 ∨ b ≠ w.heap.size := by
        rcases HB.out.1 with e | ⟨b', off', e, hc⟩
        · have := HX.out; rw [e] at this; simp at this; omega
        · cases e; exact .inr (Nat.ne_of_lt (cell_lt (hc 0 (by rw [HX.out]; omega))))
      clear hd h0
      by_cases hcH : c = H
      · have hAH : A = H := by omega
        refine Does2.value (.slice (some ⟨b, off, none⟩) (A - H) 0) (w' := w3) ?_ ⟨⟨some ⟨b, off, none⟩, 0, (by rw [hlen]; rfl), ⟨.inl (List.eq_nil_of_length_eq_zero (by rw [hlen, hAH, Nat.sub_self])), isB_bod HB.out.2⟩, (fun e => by cases e), fun ad _ hl => by omega⟩, ⟨hSb, ⟨h', hSB⟩, hSg⟩, eR_of (Below.refl _ _)⟩
        have g1 : 0 ≤ num xs 2 := by omega
        have g2 : num xs 2 ≤ (H : Int) := by omega
        have g4 : (num xs 2).toNat = A := by omega
        clear hSb hSB hSg hbs hlen hbB hA' hAH
        go_simp
      · refine Does2.value (.slice (some ⟨b, off + H, none⟩) (A - H) (c - H)) (w' := w3) ?_ ⟨⟨some ⟨b, off + H, none⟩, c - H, (by rw [hlen]; rfl), hbs, (fun e => by cases e), fun ad e hl => by cases e; rcases hbB with h | h; omega; exact h⟩, ⟨hSb, ⟨h', hSB⟩, hSg⟩, eR_of (Below.refl _ _)⟩
        have g1 : 0 ≤ num xs 2 := by omega
        have g2 : num xs 2 ≤ (c : Int) := by omega
        have g4 : (num xs 2).toNat = A := by omega
        clear hSb hSB hSg hbs hlen hbB hA'
        go_simp
    case refine_11 =>
      intro a w3 hS h0 hd
      obtain ⟨hSb, ⟨h', hSB⟩, hSg⟩ := hS
      have s9 := hd 9 List.mem_cons_self
      obtain ⟨a9, k9, q9, b9, n9, m9⟩ := s9
      have hw : Below w3.heap.size w3 (w3.alloc (.cells #[.slice a9 (bod xs).length k9] 27)) := (Below.refl _ w3).alloc (Nat.le_refl _) _
      have hkp : SlB w.heap.size (w3.alloc (.cells #[.slice a9 (bod xs).length k9] 27)) (.slice a9 (bod xs).length k9) (bod xs) := SlB.keep ⟨a9, k9, rfl, b9, n9, m9⟩ (fun g _ hg => hw.block g hg)
      have hne : w3.heap.size ≠ w.heap.size := by have := hSB.lt; omega
      replace q9 := ev q9
      refine Does2.value (.slice (some ⟨w3.heap.size, 0, none⟩) 1 1) (w' := w3.alloc (.cells #[.slice a9 (bod xs).length k9] 27)) ?_ ⟨⟨w3.heap.size, _, rfl, hne, by rw [World.cell?_alloc_new]; rfl, hkp⟩, ⟨hSb.alloc hSb.size _, ⟨h', hSB.keep hw⟩, hSg.keep hw⟩, eR_of hw⟩
      clear hSb hSB hSg h0 hd hkp hw b9 n9 m9 hne
      go_simp
    case refine_12 =>
      intro a w3 hS h0 hd
      obtain ⟨hSb, ⟨h', hSB⟩, hSg⟩ := hS
      obtain ⟨g9, v9, e9, hg9, hc9, hs9⟩ := hd 10 List.mem_cons_self
      replace e9 := ev e9
      refine Does2.call 19 #[.slice (some ⟨g9, 0, none⟩) 1 1] (w' := w3) ?_ ((iJoin1F g9 v9 (bod xs) w3 hc9 hs9.sl (by rw [HBL.out]; omega)).mono ?_)
      · clear hSb hSB hSg h0 hd hc9 hs9
        go_simp
      · rintro e w4 ⟨v, rfl, hf, hb4⟩
        exact ⟨_, rfl, slB_of hf hSB.lt, ⟨hSb.trans (hb4.mono hSb.size), ⟨h', hSB.keep hb4⟩, hSg.keep hb4⟩, eR_of hb4⟩
    case refine_13 =>
      intro a w3 hS h0 hd
      obtain ⟨hSb, ⟨h', hSB⟩, hSg⟩ := hS
      have e2 : a.tmps[2]?.getD undef = .pointer (some ⟨w.heap.size, 0, none⟩) := ev (h0 2 (by kernel_rfl))
      have e45 : a.tmps[45]?.getD undef = .agg #[.int .u32 (hdr xs).src, .int .u32 (hdr xs).dst, .int .u8 (hdr xs).proto, .int .u8 (hdr xs).ttl, .int .u16 (hdr xs).id, .bool (hdr xs).alert] := ev (hd 0 List.mem_cons_self)
      obtain ⟨c0, c1, c2, c3, c4, c5⟩ := hSB.cells
      have fz := hSB.frozen
      have hs := hSB.store (hdr xs)
      have hbl := below_store hSb (Nat.le_refl _) (.int .u32 (hdr xs).src) (.int .u32 (hdr xs).dst) (.int .u8 (hdr xs).proto) (.int .u8 (hdr xs).ttl) (.int .u16 (hdr xs).id) (.bool (hdr xs).alert)
      refine Does2.skip (w' := ((((((w3.setCell ⟨w.heap.size, 0, none⟩ (.int .u32 (hdr xs).src)).setCell ⟨w.heap.size, 1, none⟩ (.int .u32 (hdr xs).dst)).setCell ⟨w.heap.size, 2, none⟩ (.int .u8 (hdr xs).proto)).setCell ⟨w.heap.size, 3, none⟩ (.int .u8 (hdr xs).ttl)).setCell ⟨w.heap.size, 4, none⟩ (.int .u16 (hdr xs).id)).setCell ⟨w.heap.size, 5, none⟩ (.bool (hdr xs).alert))) ?_ ⟨hs, ⟨hbl, ⟨_, hs⟩, hstore_other GNE.out hSg⟩, fun g' hg' _ => store_block hg', .inl rfl⟩
      clear hSb hSB hSg h0 hd hs hbl
      go_simp
    case refine_14 =>
      intro a w3 hS h0 hd
      obtain ⟨hSb, ⟨h', hSB⟩, hSg⟩ := hS
      obtain ⟨a9, k9, q9, b9, n9, m9⟩ := hd 11 List.mem_cons_self
      replace q9 := ev q9
      refine Does2.value (.slice a9 (bod xs).length k9) (w' := w3) ?_ ⟨⟨a9, k9, rfl, b9, n9, m9⟩, ⟨hSb, ⟨h', hSB⟩, hSg⟩, eR_of (Below.refl _ _)⟩
      clear hSb hSB hSg h0 hd b9 n9 m9
      go_simp
    case refine_15 =>
      intro a w3 hS h0 hd
      obtain ⟨hSb, ⟨h', hSB⟩, hSg⟩ := hS
      refine Does2.value (.int .i64 0) (w' := w3) ?_ ⟨rfl, ⟨hSb, ⟨h', hSB⟩, hSg⟩, eR_of (Below.refl _ _)⟩
      clear hSb hSB hSg h0 hd
      go_simp
    case hend =>
      intro f2 w5 hS hV
      have hB5 := hV 12 (by decide)
      obtain ⟨a9, k9, q9, b9, n9, m9⟩ : SlB w.heap.size w5 (f2 3) (bod xs) := hV 13 (by decide)
      have q4 : f2 4 = .int .i64 0 := hV 14 (by decide)
      simp only [putAll, Act.put, List.setIfInBounds_toArray, List.set_cons_zero, List.set_cons_succ, q9, q4]
      have hSb := Lib.hid hS.1
      have HB5 : Hid (HBox w5 w.heap.size (hdr xs)) := Lib.hid hB5
      have B9 := Lib.hid b9
      have N9 := Lib.hid n9
      clear hV hS hB5 b9 n9 m9 q9 q4
      go_wp2_with fail
      exact ret_cell (p := 2) (u := 3) (v := 4) rfl rfl rfl HB5.out.load ⟨_, rfl, ⟨a9, k9, rfl, B9.out, N9.out⟩, hSb.out⟩
end Go.Proofs.Ythmejokjbkkfbaa
