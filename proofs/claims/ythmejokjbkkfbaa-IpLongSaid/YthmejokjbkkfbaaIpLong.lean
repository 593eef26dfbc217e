/- The law IpLong: every call returns true, and its arguments read behind the call as before it. Condition: none but the row's own. -/
import Derived.Test.YthmejokjbkkfbaaFs4
import Derived.Test.YthmejokjbkkfbaaRi
namespace Go.Proofs.Ythmejokjbkkfbaa.ipLong
set_option linter.unusedVariables false
open Go.ChangeShapes Go.WideShapes Go.ChangeAt Go.RowKit
open Go.ChangeMaps (open_string shut_string)

/-- What each operation leaves: a frame is asked for. -/
def lV (T : Value → World → Prop) (y : Int) (m : Nat) (zs : List Int) (h : Hdr) (al : Bool) : Nat → Value → List Value → World → Prop
  | 0, v, _, _ => v = .agg #[.int .u32 h.src, .int .u32 h.dst, .int .u8 h.proto, .int .u8 h.ttl, .int .u16 h.id, .bool al]
  | 1, v, _, _ => v = .int .i64 m
  | 2, v, _, w => ∃ g, v = .slice (some ⟨g, 0, none⟩) m m ∧ Bs w (some ⟨g, 0, none⟩) zs
  | 3, v, _, w => ∃ v1, v = .tuple #[v1, .int .i64 y] ∧ T v1 w
  | 4, v, _, w => ∃ v1, v = .tuple #[v1, .int .i64 y] ∧ T v1 w
  | 5, v, _, w => T v w
  | 6, v, _, _ => v = .int .i64 y
  | 7, v, _, w => T v w
  | 8, v, _, _ => v = .int .i64 y
  | _, _, _, _ => True
def lD : Nat → List Nat
  | 2 => [1] | 3 => [0, 2] | 4 => [3] | 5 => [4] | 6 => [4] | 7 => [5] | 8 => [6] | _ => []
theorem lV_stable {T : Value → World → Prop} (hT : ∀ v w w', Below w.heap.size w w' → T v w → T v w') {y : Int} {m : Nat} {zs : List Int} {h : Hdr} {al : Bool} {i : Nat} {v : Value} {us : List Value} {w w' : World} (hr : Below w.heap.size w w') (hv : lV T y m zs h al i v us w) : lV T y m zs h al i v us w' := by
  unfold lV at hv ⊢
  split at hv
  all_goals first
    | exact hv
    | exact hT _ _ _ hr hv
    | (obtain ⟨g, e, hb⟩ := hv; exact ⟨g, e, bs_below hb hr⟩)
    | (obtain ⟨v1, e, hb⟩ := hv; exact ⟨v1, e, hT _ _ _ hr hb⟩)
/-- What each operation leaves: the frame is held against what was asked for. -/
def mV (g c K m : Nat) (zs : List Int) : Nat → Value → List Value → World → Prop
  | 2, v, _, _ => v = .int .i64 0
  | 6, v, _, _ => v = .slice (some ⟨g, 0, none⟩) (K + m) c
  | 7, v, _, _ => v = .int .i64 (K + m : Nat)
  | 8, v, _, _ => v = .int .i64 K
  | 9, v, _, _ => v = .int .i64 m
  | 10, v, _, _ => v = .int .i64 (K + m : Nat)
  | 14, v, _, _ => v = .slice (some ⟨g, 0, none⟩) (K + m) c
  | 15, v, _, _ => v = .int .i64 K
  | 16, v, _, w => ∃ P cc, v = .slice P m cc ∧ Bs w P zs
  | 17, v, _, _ => v = .int .i64 m
  | 18, v, _, w => ∃ g', v = .slice (some ⟨g', 0, none⟩) m m ∧ Bs w (some ⟨g', 0, none⟩) zs
  | _, v, _, _ => v = .bool true
def mD : Nat → List Nat
  | 1 => [0] | 2 => [1] | 3 => [2, 1] | 4 => [1, 3] | 5 => [4] | 6 => [5] | 7 => [6, 5] | 8 => [5] | 9 => [5] | 10 => [8, 9, 5] | 11 => [7, 10, 5] | 12 => [5, 11] | 13 => [12] | 14 => [13] | 15 => [13] | 16 => [14, 15, 13] | 17 => [13] | 18 => [17, 13] | 19 => [16, 18, 13] | 20 => [13, 19] | 21 => [20] | _ => []
theorem mV_stable {g c K m : Nat} {zs : List Int} {i : Nat} {v : Value} {us : List Value} {w w' : World} (hr : Below w.heap.size w w') (hv : mV g c K m zs i v us w) : mV g c K m zs i v us w' := by
  unfold mV at hv ⊢
  split at hv
  all_goals first
    | exact hv
    | (obtain ⟨P, cc, e, hb⟩ := hv; exact ⟨P, cc, e, bs_below hb hr⟩)
    | (obtain ⟨g, e, hb⟩ := hv; exact ⟨g, e, bs_below hb hr⟩)
set_option maxRecDepth 100000 in
set_option maxHeartbeats 4000000 in
theorem walk_f (w : World) (h : Hdr) (hk : h.ok) (hal : h.alert = false) (x : Int) (hx : 0 ≤ x ∧ x ≤ 65535) :
    Calls Try.prog 8 #[.agg #[.int .u32 h.src, .int .u32 h.dst, .int .u8 h.proto, .int .u8 h.ttl, .int .u16 h.id, .bool h.alert], .int .u16 x] w fun e w' => e = .returned (.bool true) ∧ Below w.heap.size w w' := by
  obtain ⟨x0, x1⟩ := hx
  obtain ⟨m, hm⟩ : ∃ m : Nat, x % 2000 = (m : Int) := Int.eq_ofNat_of_zero_le (by omega)
  have hm2 : m < 2000 := by omega
  have HM := Lib.hid hm
  have HK := Lib.hid hk
  have BX0 := Lib.hid (HBox.new w h)
  have HMK := Lib.hid (run_make_row' (P := Try.prog) 27 5 (.int .u8 0) 1 Try.underlying27 info8 rfl .i64 .i64 m (by omega) (by omega))
  have hz : (List.replicate m (0 : Int)).length = m := List.length_replicate
  have MADE : Hid (∀ W : World, Bs (W.alloc (.cells (madeCells #[.int .u8 0] m) 5)) (some ⟨W.heap.size, 0, none⟩) (List.replicate m 0)) := Lib.hid (fun W => (Ob.made W m).bs (isB_rep m))
  have HZ := Lib.hid hz
  have HAL := Lib.hid hal
  have hs : hsz h.alert = 20 := by rw [hal]; rfl
  have HS := Lib.hid hs
  clear hk hz hal hs
  by_cases q1 : 1500 < 20 + m
  · have q1' : 1500 < 20 + x % 2000 := by omega
    have ENC : Hid (∀ (W : World) g, Bs W (some ⟨g, 0, none⟩) (List.replicate m 0) → Calls Try.prog 10 #[.agg #[.int .u32 h.src, .int .u32 h.dst, .int .u8 h.proto, .int .u8 h.ttl, .int .u16 h.id, .bool false], .slice (some ⟨g, 0, none⟩) m m] W fun e w' => ∃ v1, e = .returned (.tuple #[v1, .int .i64 7]) ∧ v1 = .slice none 0 0 ∧ Below W.heap.size W w') := Lib.hid (fun W g _ => by
      have := iEncode_no h (some ⟨g, 0, none⟩) m m W (by omega) (by rw [HS.out]; exact q1)
      rw [HAL.out] at this
      refine this.mono ?_
      rintro e w' ⟨rfl, hb⟩
      exact ⟨_, rfl, rfl, hb⟩)
    clear hm
    go_enter Try.func8, Try.ntmps8
    go_wp2_with (go_at_call 9; refine (iShown _).mono ?_; rintro e w1 ⟨rfl, hb⟩; have W1 := Lib.hid (step hb); have BX1 := Lib.hid (BX0.out.keep hb); obtain ⟨k0, k1, k2, k3, k4, k5⟩ := BX1.out.cells; rw [HAL.out] at k5; clear hb)
    clear k0 k1 k2 k3 k4 k5
    refine wp_region_each3 (lV (fun v _ => v = .slice none 0 0) 7 m (List.replicate m 0) h false) (fun W => Below w1.heap.size w1 W) (fun _ A B => Below A.heap.size A B) lD [17, 18, 19, 20, 16, 21, 22, 8, 9] (by kernel_rfl) (by kernel_rfl) (by kernel_rfl) (Below.refl _ w1).drew
      (fun i j oi oj v us A B hoi hoj hij hw hSA hr hv => lV_stable (fun v w w' _ h => h) hr hv) ?hgd
      ⟨?_, ?_, ?_, ?_, ?_, ?_, ?_, ?_, ?_, trivial⟩ ?hend
    case hgd =>
      intro i o g b hoi hog v us w hv
      have hi : i < 9 := (Array.getElem?_eq_some_iff.1 hoi).1
      have hc : i = 0 ∨ i = 1 ∨ i = 2 ∨ i = 3 ∨ i = 4 ∨ i = 5 ∨ i = 6 ∨ i = 7 ∨ i = 8 := by omega
      rcases hc with rfl | rfl | rfl | rfl | rfl | rfl | rfl | rfl | rfl
      all_goals (cases hoi; cases hog)
    case refine_1 =>
      intro a w3 hS h0 hd
      have e2 : a.tmps[2]?.getD undef = .pointer (some ⟨w.heap.size, 0, none⟩) := ev (h0 2 (by kernel_rfl))
      obtain ⟨d0, d1, d2, d3, d4, d5⟩ := (BX1.out.keep hS).cells
      rw [HAL.out] at d5
      refine Does2.value (.agg #[.int .u32 h.src, .int .u32 h.dst, .int .u8 h.proto, .int .u8 h.ttl, .int .u16 h.id, .bool false]) (w' := w3) ?_ ⟨rfl, hS, Below.refl _ _⟩
      clear hS h0 hd
      go_simp
    case refine_2 =>
      intro a w3 hS h0 hd
      have e7 : a.tmps[7]?.getD undef = .int .i64 (x % 2000) := ev (h0 7 (by kernel_rfl))
      rw [HM.out] at e7
      refine Does2.value (.int .i64 m) (w' := w3) ?_ ⟨rfl, hS, Below.refl _ _⟩
      clear hS h0 hd
      go_simp
    case refine_3 =>
      intro a w3 hS h0 hd
      have e18 : a.tmps[18]?.getD undef = .int .i64 m := ev (hd 1 List.mem_cons_self)
      refine Does2.value (.slice (some ⟨w3.heap.size, 0, none⟩) m m) (w' := w3.alloc (.cells (madeCells #[.int .u8 0] m) 5)) ?_ ⟨⟨_, rfl, MADE.out w3⟩, hS.alloc hS.size _, (Below.refl _ w3).alloc (Nat.le_refl _) _⟩
      have hmk := HMK.out
      clear hS h0 hd
      go_simp
    case refine_4 =>
      intro a w3 hS h0 hd
      have e17 : a.tmps[17]?.getD undef = .agg #[.int .u32 h.src, .int .u32 h.dst, .int .u8 h.proto, .int .u8 h.ttl, .int .u16 h.id, .bool false] := ev (hd 0 List.mem_cons_self)
      obtain ⟨g, e19, hbz⟩ := hd 2 (List.mem_cons_of_mem _ List.mem_cons_self)
      replace e19 := ev e19
      refine Does2.call 10 #[.agg #[.int .u32 h.src, .int .u32 h.dst, .int .u8 h.proto, .int .u8 h.ttl, .int .u16 h.id, .bool false], .slice (some ⟨g, 0, none⟩) m m] (w' := w3) ?_ ((ENC.out w3 g hbz).mono ?_)
      · clear hS h0 hd hbz
        go_simp
      · rintro e w4 ⟨v1, rfl, hT1, hb⟩
        exact ⟨_, rfl, ⟨v1, rfl, hT1⟩, hS.trans (hb.mono hS.size), hb⟩
    case refine_5 =>
      intro a w3 hS h0 hd
      obtain ⟨v1, e20, hT1⟩ := hd 3 List.mem_cons_self
      replace e20 := ev e20
      refine Does2.value (.tuple #[v1, .int .i64 7]) (w' := w3) ?_ ⟨⟨v1, rfl, hT1⟩, hS, Below.refl _ _⟩
      clear hS h0 hd hT1
      go_simp
    case refine_6 =>
      intro a w3 hS h0 hd
      obtain ⟨v1, e16, hT1⟩ := hd 4 List.mem_cons_self
      replace e16 := ev e16
      refine Does2.value v1 (w' := w3) ?_ ⟨hT1, hS, Below.refl _ _⟩
      clear hS h0 hd hT1
      go_simp
    case refine_7 =>
      intro a w3 hS h0 hd
      obtain ⟨v1, e16, hT1⟩ := hd 4 List.mem_cons_self
      replace e16 := ev e16
      refine Does2.value (.int .i64 7) (w' := w3) ?_ ⟨rfl, hS, Below.refl _ _⟩
      clear hS h0 hd hT1
      go_simp
    case refine_8 =>
      intro a w3 hS h0 hd
      have hT1 := hd 5 List.mem_cons_self
      obtain ⟨v1, ev1⟩ : ∃ v1, a.eval (.tmp 21) = v1 := ⟨_, rfl⟩
      have hT2 : (fun v _ => v = .slice none 0 0) v1 w3 := by rw [← ev1]; exact hT1
      replace ev1 := ev ev1
      refine Does2.value v1 (w' := w3) ?_ ⟨hT2, hS, Below.refl _ _⟩
      clear hS h0 hd hT1 hT2
      go_simp
    case refine_9 =>
      intro a w3 hS h0 hd
      have e22 : a.tmps[22]?.getD undef = .int .i64 7 := ev (hd 6 List.mem_cons_self)
      refine Does2.value (.int .i64 7) (w' := w3) ?_ ⟨rfl, hS, Below.refl _ _⟩
      clear hS h0 hd
      go_simp
    case hend =>
      intro f w2 hS hV
      have e8 : f 8 = .slice none 0 0 := hV 7 (by decide)
      have e9 : f 9 = .int .i64 7 := hV 8 (by decide)
      simp only [putAll, Act.put, List.setIfInBounds_toArray, List.set_cons_zero, List.set_cons_succ, e8, e9]
      have W2 := Lib.hid (W1.out.trans (hS.mono W1.out.size))
      clear hV hS e8 e9
      go_wp2_with fail
      go_ret
      exact ⟨rfl, W2.out⟩
  have q1' : ¬ 1500 < 20 + x % 2000 := by omega
  have hl : hsz h.alert + m ≤ 1500 := by rw [HS.out]; omega
  have HEL : Hid ((enc h (List.replicate m 0)).length = 20 + m) := Lib.hid (by rw [enc_len, HS.out, HZ.out])
  have ENC : Hid (∀ (W : World) g, Bs W (some ⟨g, 0, none⟩) (List.replicate m 0) → Calls Try.prog 10 #[.agg #[.int .u32 h.src, .int .u32 h.dst, .int .u8 h.proto, .int .u8 h.ttl, .int .u16 h.id, .bool false], .slice (some ⟨g, 0, none⟩) m m] W fun e w' => ∃ v1, e = .returned (.tuple #[v1, .int .i64 0]) ∧ (∃ g c, v1 = .slice (some ⟨g, 0, none⟩) (20 + m) c ∧ 20 + m ≤ c ∧ Bs w' (some ⟨g, 0, none⟩) (enc h (List.replicate m 0))) ∧ Below W.heap.size W w') := Lib.hid (fun W g hbz => by
    have := iEncode h (some ⟨g, 0, none⟩) m m (List.replicate m 0) W HK.out HZ.out hbz (fun e => by cases e) hl
    rw [HAL.out] at this
    refine this.mono ?_
    rintro e w' ⟨v, rfl, ⟨g, c, rfl, -, hgc, hbx, -⟩, hb⟩
    rw [HEL.out] at hgc ⊢
    exact ⟨_, rfl, ⟨g, c, rfl, hgc, hbx⟩, hb⟩)
  have HDR : Hid ((enc h (List.replicate m 0)).drop 20 = List.replicate m 0) := Lib.hid (by
    unfold enc
    rw [List.drop_append_of_le_length (by rw [hbytes_len, HS.out]; omega), List.drop_eq_nil_of_le (by rw [hbytes_len, HS.out]; omega), List.nil_append])
  clear hl hm
  go_enter Try.func8, Try.ntmps8
  go_wp2_with (go_at_call 9; refine (iShown _).mono ?_; rintro e w1 ⟨rfl, hb⟩; have W1 := Lib.hid (step hb); have BX1 := Lib.hid (BX0.out.keep hb); obtain ⟨k0, k1, k2, k3, k4, k5⟩ := BX1.out.cells; rw [HAL.out] at k5; clear hb)
  clear k0 k1 k2 k3 k4 k5
  refine wp_region_each3 (lV (fun v w => ∃ g c, v = .slice (some ⟨g, 0, none⟩) (20 + m) c ∧ 20 + m ≤ c ∧ Bs w (some ⟨g, 0, none⟩) (enc h (List.replicate m 0))) 0 m (List.replicate m 0) h false) (fun W => Below w1.heap.size w1 W) (fun _ A B => Below A.heap.size A B) lD [17, 18, 19, 20, 16, 21, 22, 8, 9] (by kernel_rfl) (by kernel_rfl) (by kernel_rfl) (Below.refl _ w1).drew
    (fun i j oi oj v us A B hoi hoj hij hw hSA hr hv => lV_stable (fun v w w' hb ⟨g, c, h1, h2, h3⟩ => ⟨g, c, h1, h2, bs_below h3 hb⟩) hr hv) ?hgd
    ⟨?_, ?_, ?_, ?_, ?_, ?_, ?_, ?_, ?_, trivial⟩ ?hend
  case hgd =>
    intro i o g b hoi hog v us w hv
    have hi : i < 9 := (Array.getElem?_eq_some_iff.1 hoi).1
    have hc : i = 0 ∨ i = 1 ∨ i = 2 ∨ i = 3 ∨ i = 4 ∨ i = 5 ∨ i = 6 ∨ i = 7 ∨ i = 8 := by omega
    rcases hc with rfl | rfl | rfl | rfl | rfl | rfl | rfl | rfl | rfl
    all_goals (cases hoi; cases hog)
  case refine_1 =>
    intro a w3 hS h0 hd
    have e2 : a.tmps[2]?.getD undef = .pointer (some ⟨w.heap.size, 0, none⟩) := ev (h0 2 (by kernel_rfl))
    obtain ⟨d0, d1, d2, d3, d4, d5⟩ := (BX1.out.keep hS).cells
    rw [HAL.out] at d5
    refine Does2.value (.agg #[.int .u32 h.src, .int .u32 h.dst, .int .u8 h.proto, .int .u8 h.ttl, .int .u16 h.id, .bool false]) (w' := w3) ?_ ⟨rfl, hS, Below.refl _ _⟩
    clear hS h0 hd
    go_simp
  case refine_2 =>
    intro a w3 hS h0 hd
    have e7 : a.tmps[7]?.getD undef = .int .i64 (x % 2000) := ev (h0 7 (by kernel_rfl))
    rw [HM.out] at e7
    refine Does2.value (.int .i64 m) (w' := w3) ?_ ⟨rfl, hS, Below.refl _ _⟩
    clear hS h0 hd
    go_simp
  case refine_3 =>
    intro a w3 hS h0 hd
    have e18 : a.tmps[18]?.getD undef = .int .i64 m := ev (hd 1 List.mem_cons_self)
    refine Does2.value (.slice (some ⟨w3.heap.size, 0, none⟩) m m) (w' := w3.alloc (.cells (madeCells #[.int .u8 0] m) 5)) ?_ ⟨⟨_, rfl, MADE.out w3⟩, hS.alloc hS.size _, (Below.refl _ w3).alloc (Nat.le_refl _) _⟩
    have hmk := HMK.out
    clear hS h0 hd
    go_simp
  case refine_4 =>
    intro a w3 hS h0 hd
    have e17 : a.tmps[17]?.getD undef = .agg #[.int .u32 h.src, .int .u32 h.dst, .int .u8 h.proto, .int .u8 h.ttl, .int .u16 h.id, .bool false] := ev (hd 0 List.mem_cons_self)
    obtain ⟨g, e19, hbz⟩ := hd 2 (List.mem_cons_of_mem _ List.mem_cons_self)
    replace e19 := ev e19
    refine Does2.call 10 #[.agg #[.int .u32 h.src, .int .u32 h.dst, .int .u8 h.proto, .int .u8 h.ttl, .int .u16 h.id, .bool false], .slice (some ⟨g, 0, none⟩) m m] (w' := w3) ?_ ((ENC.out w3 g hbz).mono ?_)
    · clear hS h0 hd hbz
      go_simp
    · rintro e w4 ⟨v1, rfl, hT1, hb⟩
      exact ⟨_, rfl, ⟨v1, rfl, hT1⟩, hS.trans (hb.mono hS.size), hb⟩
  case refine_5 =>
    intro a w3 hS h0 hd
    obtain ⟨v1, e20, hT1⟩ := hd 3 List.mem_cons_self
    replace e20 := ev e20
    refine Does2.value (.tuple #[v1, .int .i64 0]) (w' := w3) ?_ ⟨⟨v1, rfl, hT1⟩, hS, Below.refl _ _⟩
    clear hS h0 hd hT1
    go_simp
  case refine_6 =>
    intro a w3 hS h0 hd
    obtain ⟨v1, e16, hT1⟩ := hd 4 List.mem_cons_self
    replace e16 := ev e16
    refine Does2.value v1 (w' := w3) ?_ ⟨hT1, hS, Below.refl _ _⟩
    clear hS h0 hd hT1
    go_simp
  case refine_7 =>
    intro a w3 hS h0 hd
    obtain ⟨v1, e16, hT1⟩ := hd 4 List.mem_cons_self
    replace e16 := ev e16
    refine Does2.value (.int .i64 0) (w' := w3) ?_ ⟨rfl, hS, Below.refl _ _⟩
    clear hS h0 hd hT1
    go_simp
  case refine_8 =>
    intro a w3 hS h0 hd
    have hT1 := hd 5 List.mem_cons_self
    obtain ⟨v1, ev1⟩ : ∃ v1, a.eval (.tmp 21) = v1 := ⟨_, rfl⟩
    have hT2 : (fun v w => ∃ g c, v = .slice (some ⟨g, 0, none⟩) (20 + m) c ∧ 20 + m ≤ c ∧ Bs w (some ⟨g, 0, none⟩) (enc h (List.replicate m 0))) v1 w3 := by rw [← ev1]; exact hT1
    replace ev1 := ev ev1
    refine Does2.value v1 (w' := w3) ?_ ⟨hT2, hS, Below.refl _ _⟩
    clear hS h0 hd hT1 hT2
    go_simp
  case refine_9 =>
    intro a w3 hS h0 hd
    have e22 : a.tmps[22]?.getD undef = .int .i64 0 := ev (hd 6 List.mem_cons_self)
    refine Does2.value (.int .i64 0) (w' := w3) ?_ ⟨rfl, hS, Below.refl _ _⟩
    clear hS h0 hd
    go_simp
  case hend =>
    intro f w2 hS hV
    obtain ⟨g, c, e8, hgc, hbx⟩ : ∃ g c, f 8 = .slice (some ⟨g, 0, none⟩) (20 + m) c ∧ 20 + m ≤ c ∧ Bs w2 (some ⟨g, 0, none⟩) (enc h (List.replicate m 0)) := hV 7 (by decide)
    have e9 : f 9 = .int .i64 0 := hV 8 (by decide)
    simp only [putAll, Act.put, List.setIfInBounds_toArray, List.set_cons_zero, List.set_cons_succ, e8, e9]
    have W2 := Lib.hid (W1.out.trans (hS.mono W1.out.size))
    have XX := Lib.hid hbx
    clear hV hS e8 e9 hbx
    go_wp2_with fail
    refine wp_region_each3 (mV g c 20 m (List.replicate m 0)) (fun W => Below w2.heap.size w2 W) (fun _ A B => Below A.heap.size A B) mD [37, 38, 39, 40, 41, 42, 43, 44, 45, 46, 47, 48, 49, 50, 51, 52, 53, 54, 55, 56, 57, 4] (by kernel_rfl) (by kernel_rfl) (by kernel_rfl) (Below.refl _ w2).drew
      (fun i j oi oj v us A B hoi hoj hij hw hSA hr hv => mV_stable hr hv) ?hgd
      ⟨?_, ?_, ?_, ?_, ?_, ?_, ?_, ?_, ?_, ?_, ?_, ?_, ?_, ?_, ?_, ?_, ?_, ?_, ?_, ?_, ?_, ?_, trivial⟩ ?hend
    case hgd =>
      intro i o g b hoi hog v us w hv
      have hi : i < 22 := (Array.getElem?_eq_some_iff.1 hoi).1
      have hc : i = 0 ∨ i = 1 ∨ i = 2 ∨ i = 3 ∨ i = 4 ∨ i = 5 ∨ i = 6 ∨ i = 7 ∨ i = 8 ∨ i = 9 ∨ i = 10 ∨ i = 11 ∨ i = 12 ∨ i = 13 ∨ i = 14 ∨ i = 15 ∨ i = 16 ∨ i = 17 ∨ i = 18 ∨ i = 19 ∨ i = 20 ∨ i = 21 := by omega
      rcases hc with rfl | rfl | rfl | rfl | rfl | rfl | rfl | rfl | rfl | rfl | rfl | rfl | rfl | rfl | rfl | rfl | rfl | rfl | rfl | rfl | rfl | rfl
      all_goals
        cases hoi
        first
          | (cases hog; done)
          | (cases hog; exact hv)
    case refine_1 =>
      intro a w4 hS h0 hd
      have e5 : a.tmps[5]?.getD undef = .bool true := ev (h0 5 (by kernel_rfl))
      refine Does2.value (.bool true) (w' := w4) ?_ ⟨rfl, hS, Below.refl _ _⟩
      clear hS h0 hd
      go_simp
    case refine_2 =>
      intro a w4 hS h0 hd
      have e37 : a.tmps[37]?.getD undef = .bool true := ev (hd 0 List.mem_cons_self)
      refine Does2.value (.bool true) (w' := w4) ?_ ⟨rfl, hS, Below.refl _ _⟩
      clear hS h0 hd
      go_simp
    case refine_3 =>
      intro a w4 hS h0 hd
      have e9 : a.tmps[9]?.getD undef = .int .i64 0 := ev (h0 9 (by kernel_rfl))
      refine Does2.value (.int .i64 0) (w' := w4) ?_ ⟨rfl, hS, Below.refl _ _⟩
      clear hS h0 hd
      go_simp
    case refine_4 =>
      intro a w4 hS h0 hd
      have e39 : a.tmps[39]?.getD undef = .int .i64 0 := ev (hd 2 List.mem_cons_self)
      refine Does2.value (.bool true) (w' := w4) ?_ ⟨rfl, hS, Below.refl _ _⟩
      clear hS h0 hd
      go_simp
    case refine_5 =>
      intro a w4 hS h0 hd
      have e38 : a.tmps[38]?.getD undef = .bool true := ev (hd 1 List.mem_cons_self)
      have e40 : a.tmps[40]?.getD undef = .bool true := ev (hd 3 (List.mem_cons_of_mem _ List.mem_cons_self))
      refine Does2.value (.bool true) (w' := w4) ?_ ⟨rfl, hS, Below.refl _ _⟩
      clear hS h0 hd
      go_simp
    case refine_6 =>
      intro a w4 hS h0 hd
      have e41 : a.tmps[41]?.getD undef = .bool true := ev (hd 4 List.mem_cons_self)
      refine Does2.value (.bool true) (w' := w4) ?_ ⟨rfl, hS, Below.refl _ _⟩
      clear hS h0 hd
      go_simp
    case refine_7 =>
      intro a w4 hS h0 hd
      have e8 : a.tmps[8]?.getD undef = .slice (some ⟨g, 0, none⟩) (20 + m) c := ev (h0 8 (by kernel_rfl))
      refine Does2.value (.slice (some ⟨g, 0, none⟩) (20 + m) c) (w' := w4) ?_ ⟨rfl, hS, Below.refl _ _⟩
      clear hS h0 hd
      go_simp
    case refine_8 =>
      intro a w4 hS h0 hd
      have e43 : a.tmps[43]?.getD undef = .slice (some ⟨g, 0, none⟩) (20 + m) c := ev (hd 6 List.mem_cons_self)
      refine Does2.value (.int .i64 (20 + m : Nat)) (w' := w4) ?_ ⟨rfl, hS, Below.refl _ _⟩
      clear hS h0 hd
      go_simp
    case refine_9 =>
      intro a w4 hS h0 hd
      have e6 : a.tmps[6]?.getD undef = .int .i64 20 := ev (h0 6 (by kernel_rfl))
      refine Does2.value (.int .i64 (20 : Nat)) (w' := w4) ?_ ⟨rfl, hS, Below.refl _ _⟩
      clear hS h0 hd
      go_simp
    case refine_10 =>
      intro a w4 hS h0 hd
      have e7 : a.tmps[7]?.getD undef = .int .i64 (x % 2000) := ev (h0 7 (by kernel_rfl))
      rw [HM.out] at e7
      refine Does2.value (.int .i64 m) (w' := w4) ?_ ⟨rfl, hS, Below.refl _ _⟩
      clear hS h0 hd
      go_simp
    case refine_11 =>
      intro a w4 hS h0 hd
      have e45 : a.tmps[45]?.getD undef = .int .i64 (20 : Nat) := ev (hd 8 List.mem_cons_self)
      have e46 : a.tmps[46]?.getD undef = .int .i64 m := ev (hd 9 (List.mem_cons_of_mem _ List.mem_cons_self))
      refine Does2.value (.int .i64 (20 + m : Nat)) (w' := w4) ?_ ⟨rfl, hS, Below.refl _ _⟩
      clear hS h0 hd
      have q : IntKind.i64.wrap (20 + (m : Int)) = 20 + (m : Int) := IntWalk.i64_in _ (by omega)
      have q2 : ((20 + m : Nat) : Int) = 20 + (m : Int) := by omega
      go_simp
    case refine_12 =>
      intro a w4 hS h0 hd
      have e44 : a.tmps[44]?.getD undef = .int .i64 (20 + m : Nat) := ev (hd 7 List.mem_cons_self)
      have e47 : a.tmps[47]?.getD undef = .int .i64 (20 + m : Nat) := ev (hd 10 (List.mem_cons_of_mem _ List.mem_cons_self))
      refine Does2.value (.bool true) (w' := w4) ?_ ⟨rfl, hS, Below.refl _ _⟩
      clear hS h0 hd
      go_simp
    case refine_13 =>
      intro a w4 hS h0 hd
      have e42 : a.tmps[42]?.getD undef = .bool true := ev (hd 5 List.mem_cons_self)
      have e48 : a.tmps[48]?.getD undef = .bool true := ev (hd 11 (List.mem_cons_of_mem _ List.mem_cons_self))
      refine Does2.value (.bool true) (w' := w4) ?_ ⟨rfl, hS, Below.refl _ _⟩
      clear hS h0 hd
      go_simp
    case refine_14 =>
      intro a w4 hS h0 hd
      have e49 : a.tmps[49]?.getD undef = .bool true := ev (hd 12 List.mem_cons_self)
      refine Does2.value (.bool true) (w' := w4) ?_ ⟨rfl, hS, Below.refl _ _⟩
      clear hS h0 hd
      go_simp
    case refine_15 =>
      intro a w4 hS h0 hd
      have e8 : a.tmps[8]?.getD undef = .slice (some ⟨g, 0, none⟩) (20 + m) c := ev (h0 8 (by kernel_rfl))
      refine Does2.value (.slice (some ⟨g, 0, none⟩) (20 + m) c) (w' := w4) ?_ ⟨rfl, hS, Below.refl _ _⟩
      clear hS h0 hd
      go_simp
    case refine_16 =>
      intro a w4 hS h0 hd
      have e6 : a.tmps[6]?.getD undef = .int .i64 20 := ev (h0 6 (by kernel_rfl))
      refine Does2.value (.int .i64 (20 : Nat)) (w' := w4) ?_ ⟨rfl, hS, Below.refl _ _⟩
      clear hS h0 hd
      go_simp
    case refine_17 =>
      intro a w4 hS h0 hd
      have e51 : a.tmps[51]?.getD undef = .slice (some ⟨g, 0, none⟩) (20 + m) c := ev (hd 14 List.mem_cons_self)
      have e52 : a.tmps[52]?.getD undef = .int .i64 (20 : Nat) := ev (hd 15 (List.mem_cons_of_mem _ List.mem_cons_self))
      by_cases hcK : c = 20
      · have hm0 : m = 0 := by omega
        refine Does2.value (.slice (some ⟨g, 0, none⟩) m 0) (w' := w4) ?_ ⟨⟨_, _, rfl, ⟨.inl (by rw [hm0]; rfl), isB_rep m⟩⟩, hS, Below.refl _ _⟩
        clear hS h0 hd
        go_simp
      · have hbz : Bs w4 (some ⟨g, 20, none⟩) (List.replicate m 0) := by
          have := bs_drop (bs_below XX.out hS) 20
          rw [HDR.out, Nat.zero_add] at this
          exact this
        refine Does2.value (.slice (some ⟨g, 20, none⟩) m (c - 20)) (w' := w4) ?_ ⟨⟨_, _, rfl, hbz⟩, hS, Below.refl _ _⟩
        have q1' : 20 ≤ 20 + m := by omega
        clear hS h0 hd hbz
        go_simp
        intro hlt
        omega
    case refine_18 =>
      intro a w4 hS h0 hd
      have e7 : a.tmps[7]?.getD undef = .int .i64 (x % 2000) := ev (h0 7 (by kernel_rfl))
      rw [HM.out] at e7
      refine Does2.value (.int .i64 m) (w' := w4) ?_ ⟨rfl, hS, Below.refl _ _⟩
      clear hS h0 hd
      go_simp
    case refine_19 =>
      intro a w4 hS h0 hd
      have e54 : a.tmps[54]?.getD undef = .int .i64 m := ev (hd 17 List.mem_cons_self)
      refine Does2.value (.slice (some ⟨w4.heap.size, 0, none⟩) m m) (w' := w4.alloc (.cells (madeCells #[.int .u8 0] m) 5)) ?_ ⟨⟨_, rfl, MADE.out w4⟩, hS.alloc hS.size _, (Below.refl _ w4).alloc (Nat.le_refl _) _⟩
      have hmk := HMK.out
      clear hS h0 hd
      go_simp
    case refine_20 =>
      intro a w4 hS h0 hd
      obtain ⟨P, cc, e53, hbP⟩ := hd 16 List.mem_cons_self
      obtain ⟨g', e55, hbz⟩ := hd 18 (List.mem_cons_of_mem _ List.mem_cons_self)
      replace e53 := ev e53
      replace e55 := ev e55
      refine Does2.call 16 #[.slice P m cc, .slice (some ⟨g', 0, none⟩) m m] (w' := w4) ?_ ((rSame P (some ⟨g', 0, none⟩) m m cc m (List.replicate m 0) (List.replicate m 0) w4 HZ.out HZ.out (by omega) hbP hbz).mono ?_)
      · clear hS h0 hd hbP hbz
        go_simp
      · rw [same_refl]
        rintro e w5 ⟨rfl, hb⟩
        exact ⟨_, rfl, rfl, hS.trans (hb.mono hS.size), hb⟩
    case refine_21 =>
      intro a w4 hS h0 hd
      have e50 : a.tmps[50]?.getD undef = .bool true := ev (hd 13 List.mem_cons_self)
      have e56 : a.tmps[56]?.getD undef = .bool true := ev (hd 19 (List.mem_cons_of_mem _ List.mem_cons_self))
      refine Does2.value (.bool true) (w' := w4) ?_ ⟨rfl, hS, Below.refl _ _⟩
      clear hS h0 hd
      go_simp
    case refine_22 =>
      intro a w4 hS h0 hd
      have e57 : a.tmps[57]?.getD undef = .bool true := ev (hd 20 List.mem_cons_self)
      refine Does2.value (.bool true) (w' := w4) ?_ ⟨rfl, hS, Below.refl _ _⟩
      clear hS h0 hd
      go_simp
    case hend =>
      intro f2 w5 hS hV
      have e4 : f2 4 = .bool true := hV 21 (by decide)
      simp only [putAll, Act.put, List.setIfInBounds_toArray, List.set_cons_zero, List.set_cons_succ, e4]
      have W5 := Lib.hid (W2.out.trans (hS.mono W2.out.size))
      clear hV hS e4
      go_wp2_with fail
      go_ret
      exact ⟨rfl, W5.out⟩
set_option maxRecDepth 100000 in
set_option maxHeartbeats 4000000 in
theorem walk_t (w : World) (h : Hdr) (hk : h.ok) (hal : h.alert = true) (x : Int) (hx : 0 ≤ x ∧ x ≤ 65535) :
    Calls Try.prog 8 #[.agg #[.int .u32 h.src, .int .u32 h.dst, .int .u8 h.proto, .int .u8 h.ttl, .int .u16 h.id, .bool h.alert], .int .u16 x] w fun e w' => e = .returned (.bool true) ∧ Below w.heap.size w w' := by
  obtain ⟨x0, x1⟩ := hx
  obtain ⟨m, hm⟩ : ∃ m : Nat, x % 2000 = (m : Int) := Int.eq_ofNat_of_zero_le (by omega)
  have hm2 : m < 2000 := by omega
  have HM := Lib.hid hm
  have HK := Lib.hid hk
  have BX0 := Lib.hid (HBox.new w h)
  have HMK := Lib.hid (run_make_row' (P := Try.prog) 27 5 (.int .u8 0) 1 Try.underlying27 info8 rfl .i64 .i64 m (by omega) (by omega))
  have hz : (List.replicate m (0 : Int)).length = m := List.length_replicate
  have MADE : Hid (∀ W : World, Bs (W.alloc (.cells (madeCells #[.int .u8 0] m) 5)) (some ⟨W.heap.size, 0, none⟩) (List.replicate m 0)) := Lib.hid (fun W => (Ob.made W m).bs (isB_rep m))
  have HZ := Lib.hid hz
  have HAL := Lib.hid hal
  have hs : hsz h.alert = 24 := by rw [hal]; rfl
  have HS := Lib.hid hs
  clear hk hz hal hs
  by_cases q1 : 1500 < 24 + m
  · have q1' : 1500 < 24 + x % 2000 := by omega
    have ENC : Hid (∀ (W : World) g, Bs W (some ⟨g, 0, none⟩) (List.replicate m 0) → Calls Try.prog 10 #[.agg #[.int .u32 h.src, .int .u32 h.dst, .int .u8 h.proto, .int .u8 h.ttl, .int .u16 h.id, .bool true], .slice (some ⟨g, 0, none⟩) m m] W fun e w' => ∃ v1, e = .returned (.tuple #[v1, .int .i64 7]) ∧ v1 = .slice none 0 0 ∧ Below W.heap.size W w') := Lib.hid (fun W g _ => by
      have := iEncode_no h (some ⟨g, 0, none⟩) m m W (by omega) (by rw [HS.out]; exact q1)
      rw [HAL.out] at this
      refine this.mono ?_
      rintro e w' ⟨rfl, hb⟩
      exact ⟨_, rfl, rfl, hb⟩)
    clear hm
    go_enter Try.func8, Try.ntmps8
    go_wp2_with (go_at_call 9; refine (iShown _).mono ?_; rintro e w1 ⟨rfl, hb⟩; have W1 := Lib.hid (step hb); have BX1 := Lib.hid (BX0.out.keep hb); obtain ⟨k0, k1, k2, k3, k4, k5⟩ := BX1.out.cells; rw [HAL.out] at k5; clear hb)
    clear k0 k1 k2 k3 k4 k5
    refine wp_region_each3 (lV (fun v _ => v = .slice none 0 0) 7 m (List.replicate m 0) h true) (fun W => Below w1.heap.size w1 W) (fun _ A B => Below A.heap.size A B) lD [17, 18, 19, 20, 16, 21, 22, 8, 9] (by kernel_rfl) (by kernel_rfl) (by kernel_rfl) (Below.refl _ w1).drew
      (fun i j oi oj v us A B hoi hoj hij hw hSA hr hv => lV_stable (fun v w w' _ h => h) hr hv) ?hgd
      ⟨?_, ?_, ?_, ?_, ?_, ?_, ?_, ?_, ?_, trivial⟩ ?hend
    case hgd =>
      intro i o g b hoi hog v us w hv
      have hi : i < 9 := (Array.getElem?_eq_some_iff.1 hoi).1
      have hc : i = 0 ∨ i = 1 ∨ i = 2 ∨ i = 3 ∨ i = 4 ∨ i = 5 ∨ i = 6 ∨ i = 7 ∨ i = 8 := by omega
      rcases hc with rfl | rfl | rfl | rfl | rfl | rfl | rfl | rfl | rfl
      all_goals (cases hoi; cases hog)
    case refine_1 =>
      intro a w3 hS h0 hd
      have e2 : a.tmps[2]?.getD undef = .pointer (some ⟨w.heap.size, 0, none⟩) := ev (h0 2 (by kernel_rfl))
      obtain ⟨d0, d1, d2, d3, d4, d5⟩ := (BX1.out.keep hS).cells
      rw [HAL.out] at d5
      refine Does2.value (.agg #[.int .u32 h.src, .int .u32 h.dst, .int .u8 h.proto, .int .u8 h.ttl, .int .u16 h.id, .bool true]) (w' := w3) ?_ ⟨rfl, hS, Below.refl _ _⟩
      clear hS h0 hd
      go_simp
    case refine_2 =>
      intro a w3 hS h0 hd
      have e7 : a.tmps[7]?.getD undef = .int .i64 (x % 2000) := ev (h0 7 (by kernel_rfl))
      rw [HM.out] at e7
      refine Does2.value (.int .i64 m) (w' := w3) ?_ ⟨rfl, hS, Below.refl _ _⟩
      clear hS h0 hd
      go_simp
    case refine_3 =>
      intro a w3 hS h0 hd
      have e18 : a.tmps[18]?.getD undef = .int .i64 m := ev (hd 1 List.mem_cons_self)
      refine Does2.value (.slice (some ⟨w3.heap.size, 0, none⟩) m m) (w' := w3.alloc (.cells (madeCells #[.int .u8 0] m) 5)) ?_ ⟨⟨_, rfl, MADE.out w3⟩, hS.alloc hS.size _, (Below.refl _ w3).alloc (Nat.le_refl _) _⟩
      have hmk := HMK.out
      clear hS h0 hd
      go_simp
    case refine_4 =>
      intro a w3 hS h0 hd
      have e17 : a.tmps[17]?.getD undef = .agg #[.int .u32 h.src, .int .u32 h.dst, .int .u8 h.proto, .int .u8 h.ttl, .int .u16 h.id, .bool true] := ev (hd 0 List.mem_cons_self)
      obtain ⟨g, e19, hbz⟩ := hd 2 (List.mem_cons_of_mem _ List.mem_cons_self)
      replace e19 := ev e19
      refine Does2.call 10 #[.agg #[.int .u32 h.src, .int .u32 h.dst, .int .u8 h.proto, .int .u8 h.ttl, .int .u16 h.id, .bool true], .slice (some ⟨g, 0, none⟩) m m] (w' := w3) ?_ ((ENC.out w3 g hbz).mono ?_)
      · clear hS h0 hd hbz
        go_simp
      · rintro e w4 ⟨v1, rfl, hT1, hb⟩
        exact ⟨_, rfl, ⟨v1, rfl, hT1⟩, hS.trans (hb.mono hS.size), hb⟩
    case refine_5 =>
      intro a w3 hS h0 hd
      obtain ⟨v1, e20, hT1⟩ := hd 3 List.mem_cons_self
      replace e20 := ev e20
      refine Does2.value (.tuple #[v1, .int .i64 7]) (w' := w3) ?_ ⟨⟨v1, rfl, hT1⟩, hS, Below.refl _ _⟩
      clear hS h0 hd hT1
      go_simp
    case refine_6 =>
      intro a w3 hS h0 hd
      obtain ⟨v1, e16, hT1⟩ := hd 4 List.mem_cons_self
      replace e16 := ev e16
      refine Does2.value v1 (w' := w3) ?_ ⟨hT1, hS, Below.refl _ _⟩
      clear hS h0 hd hT1
      go_simp
    case refine_7 =>
      intro a w3 hS h0 hd
      obtain ⟨v1, e16, hT1⟩ := hd 4 List.mem_cons_self
      replace e16 := ev e16
      refine Does2.value (.int .i64 7) (w' := w3) ?_ ⟨rfl, hS, Below.refl _ _⟩
      clear hS h0 hd hT1
      go_simp
    case refine_8 =>
      intro a w3 hS h0 hd
      have hT1 := hd 5 List.mem_cons_self
      obtain ⟨v1, ev1⟩ : ∃ v1, a.eval (.tmp 21) = v1 := ⟨_, rfl⟩
      have hT2 : (fun v _ => v = .slice none 0 0) v1 w3 := by rw [← ev1]; exact hT1
      replace ev1 := ev ev1
      refine Does2.value v1 (w' := w3) ?_ ⟨hT2, hS, Below.refl _ _⟩
      clear hS h0 hd hT1 hT2
      go_simp
    case refine_9 =>
      intro a w3 hS h0 hd
      have e22 : a.tmps[22]?.getD undef = .int .i64 7 := ev (hd 6 List.mem_cons_self)
      refine Does2.value (.int .i64 7) (w' := w3) ?_ ⟨rfl, hS, Below.refl _ _⟩
      clear hS h0 hd
      go_simp
    case hend =>
      intro f w2 hS hV
      have e8 : f 8 = .slice none 0 0 := hV 7 (by decide)
      have e9 : f 9 = .int .i64 7 := hV 8 (by decide)
      simp only [putAll, Act.put, List.setIfInBounds_toArray, List.set_cons_zero, List.set_cons_succ, e8, e9]
      have W2 := Lib.hid (W1.out.trans (hS.mono W1.out.size))
      clear hV hS e8 e9
      go_wp2_with fail
      go_ret
      exact ⟨rfl, W2.out⟩
  have q1' : ¬ 1500 < 24 + x % 2000 := by omega
  have hl : hsz h.alert + m ≤ 1500 := by rw [HS.out]; omega
  have HEL : Hid ((enc h (List.replicate m 0)).length = 24 + m) := Lib.hid (by rw [enc_len, HS.out, HZ.out])
  have ENC : Hid (∀ (W : World) g, Bs W (some ⟨g, 0, none⟩) (List.replicate m 0) → Calls Try.prog 10 #[.agg #[.int .u32 h.src, .int .u32 h.dst, .int .u8 h.proto, .int .u8 h.ttl, .int .u16 h.id, .bool true], .slice (some ⟨g, 0, none⟩) m m] W fun e w' => ∃ v1, e = .returned (.tuple #[v1, .int .i64 0]) ∧ (∃ g c, v1 = .slice (some ⟨g, 0, none⟩) (24 + m) c ∧ 24 + m ≤ c ∧ Bs w' (some ⟨g, 0, none⟩) (enc h (List.replicate m 0))) ∧ Below W.heap.size W w') := Lib.hid (fun W g hbz => by
    have := iEncode h (some ⟨g, 0, none⟩) m m (List.replicate m 0) W HK.out HZ.out hbz (fun e => by cases e) hl
    rw [HAL.out] at this
    refine this.mono ?_
    rintro e w' ⟨v, rfl, ⟨g, c, rfl, -, hgc, hbx, -⟩, hb⟩
    rw [HEL.out] at hgc ⊢
    exact ⟨_, rfl, ⟨g, c, rfl, hgc, hbx⟩, hb⟩)
  have HDR : Hid ((enc h (List.replicate m 0)).drop 24 = List.replicate m 0) := Lib.hid (by
    unfold enc
    rw [List.drop_append_of_le_length (by rw [hbytes_len, HS.out]; omega), List.drop_eq_nil_of_le (by rw [hbytes_len, HS.out]; omega), List.nil_append])
  clear hl hm
  go_enter Try.func8, Try.ntmps8
  go_wp2_with (go_at_call 9; refine (iShown _).mono ?_; rintro e w1 ⟨rfl, hb⟩; have W1 := Lib.hid (step hb); have BX1 := Lib.hid (BX0.out.keep hb); obtain ⟨k0, k1, k2, k3, k4, k5⟩ := BX1.out.cells; rw [HAL.out] at k5; clear hb)
  clear k0 k1 k2 k3 k4 k5
  refine wp_region_each3 (lV (fun v w => ∃ g c, v = .slice (some ⟨g, 0, none⟩) (24 + m) c ∧ 24 + m ≤ c ∧ Bs w (some ⟨g, 0, none⟩) (enc h (List.replicate m 0))) 0 m (List.replicate m 0) h true) (fun W => Below w1.heap.size w1 W) (fun _ A B => Below A.heap.size A B) lD [17, 18, 19, 20, 16, 21, 22, 8, 9] (by kernel_rfl) (by kernel_rfl) (by kernel_rfl) (Below.refl _ w1).drew
    (fun i j oi oj v us A B hoi hoj hij hw hSA hr hv => lV_stable (fun v w w' hb ⟨g, c, h1, h2, h3⟩ => ⟨g, c, h1, h2, bs_below h3 hb⟩) hr hv) ?hgd
    ⟨?_, ?_, ?_, ?_, ?_, ?_, ?_, ?_, ?_, trivial⟩ ?hend
  case hgd =>
    intro i o g b hoi hog v us w hv
    have hi : i < 9 := (Array.getElem?_eq_some_iff.1 hoi).1
    have hc : i = 0 ∨ i = 1 ∨ i = 2 ∨ i = 3 ∨ i = 4 ∨ i = 5 ∨ i = 6 ∨ i = 7 ∨ i = 8 := by omega
    rcases hc with rfl | rfl | rfl | rfl | rfl | rfl | rfl | rfl | rfl
    all_goals (cases hoi; cases hog)
  case refine_1 =>
    intro a w3 hS h0 hd
    have e2 : a.tmps[2]?.getD undef = .pointer (some ⟨w.heap.size, 0, none⟩) := ev (h0 2 (by kernel_rfl))
    obtain ⟨d0, d1, d2, d3, d4, d5⟩ := (BX1.out.keep hS).cells
    rw [HAL.out] at d5
    refine Does2.value (.agg #[.int .u32 h.src, .int .u32 h.dst, .int .u8 h.proto, .int .u8 h.ttl, .int .u16 h.id, .bool true]) (w' := w3) ?_ ⟨rfl, hS, Below.refl _ _⟩
    clear hS h0 hd
    go_simp
  case refine_2 =>
    intro a w3 hS h0 hd
    have e7 : a.tmps[7]?.getD undef = .int .i64 (x % 2000) := ev (h0 7 (by kernel_rfl))
    rw [HM.out] at e7
    refine Does2.value (.int .i64 m) (w' := w3) ?_ ⟨rfl, hS, Below.refl _ _⟩
    clear hS h0 hd
    go_simp
  case refine_3 =>
    intro a w3 hS h0 hd
    have e18 : a.tmps[18]?.getD undef = .int .i64 m := ev (hd 1 List.mem_cons_self)
    refine Does2.value (.slice (some ⟨w3.heap.size, 0, none⟩) m m) (w' := w3.alloc (.cells (madeCells #[.int .u8 0] m) 5)) ?_ ⟨⟨_, rfl, MADE.out w3⟩, hS.alloc hS.size _, (Below.refl _ w3).alloc (Nat.le_refl _) _⟩
    have hmk := HMK.out
    clear hS h0 hd
    go_simp
  case refine_4 =>
    intro a w3 hS h0 hd
    have e17 : a.tmps[17]?.getD undef = .agg #[.int .u32 h.src, .int .u32 h.dst, .int .u8 h.proto, .int .u8 h.ttl, .int .u16 h.id, .bool true] := ev (hd 0 List.mem_cons_self)
    obtain ⟨g, e19, hbz⟩ := hd 2 (List.mem_cons_of_mem _ List.mem_cons_self)
    replace e19 := ev e19
    refine Does2.call 10 #[.agg #[.int .u32 h.src, .int .u32 h.dst, .int .u8 h.proto, .int .u8 h.ttl, .int .u16 h.id, .bool true], .slice (some ⟨g, 0, none⟩) m m] (w' := w3) ?_ ((ENC.out w3 g hbz).mono ?_)
    · clear hS h0 hd hbz
      go_simp
    · rintro e w4 ⟨v1, rfl, hT1, hb⟩
      exact ⟨_, rfl, ⟨v1, rfl, hT1⟩, hS.trans (hb.mono hS.size), hb⟩
  case refine_5 =>
    intro a w3 hS h0 hd
    obtain ⟨v1, e20, hT1⟩ := hd 3 List.mem_cons_self
    replace e20 := ev e20
    refine Does2.value (.tuple #[v1, .int .i64 0]) (w' := w3) ?_ ⟨⟨v1, rfl, hT1⟩, hS, Below.refl _ _⟩
    clear hS h0 hd hT1
    go_simp
  case refine_6 =>
    intro a w3 hS h0 hd
    obtain ⟨v1, e16, hT1⟩ := hd 4 List.mem_cons_self
    replace e16 := ev e16
    refine Does2.value v1 (w' := w3) ?_ ⟨hT1, hS, Below.refl _ _⟩
    clear hS h0 hd hT1
    go_simp
  case refine_7 =>
    intro a w3 hS h0 hd
    obtain ⟨v1, e16, hT1⟩ := hd 4 List.mem_cons_self
    replace e16 := ev e16
    refine Does2.value (.int .i64 0) (w' := w3) ?_ ⟨rfl, hS, Below.refl _ _⟩
    clear hS h0 hd hT1
    go_simp
  case refine_8 =>
    intro a w3 hS h0 hd
    have hT1 := hd 5 List.mem_cons_self
    obtain ⟨v1, ev1⟩ : ∃ v1, a.eval (.tmp 21) = v1 := ⟨_, rfl⟩
    have hT2 : (fun v w => ∃ g c, v = .slice (some ⟨g, 0, none⟩) (24 + m) c ∧ 24 + m ≤ c ∧ Bs w (some ⟨g, 0, none⟩) (enc h (List.replicate m 0))) v1 w3 := by rw [← ev1]; exact hT1
    replace ev1 := ev ev1
    refine Does2.value v1 (w' := w3) ?_ ⟨hT2, hS, Below.refl _ _⟩
    clear hS h0 hd hT1 hT2
    go_simp
  case refine_9 =>
    intro a w3 hS h0 hd
    have e22 : a.tmps[22]?.getD undef = .int .i64 0 := ev (hd 6 List.mem_cons_self)
    refine Does2.value (.int .i64 0) (w' := w3) ?_ ⟨rfl, hS, Below.refl _ _⟩
    clear hS h0 hd
    go_simp
  case hend =>
    intro f w2 hS hV
    obtain ⟨g, c, e8, hgc, hbx⟩ : ∃ g c, f 8 = .slice (some ⟨g, 0, none⟩) (24 + m) c ∧ 24 + m ≤ c ∧ Bs w2 (some ⟨g, 0, none⟩) (enc h (List.replicate m 0)) := hV 7 (by decide)
    have e9 : f 9 = .int .i64 0 := hV 8 (by decide)
    simp only [putAll, Act.put, List.setIfInBounds_toArray, List.set_cons_zero, List.set_cons_succ, e8, e9]
    have W2 := Lib.hid (W1.out.trans (hS.mono W1.out.size))
    have XX := Lib.hid hbx
    clear hV hS e8 e9 hbx
    go_wp2_with fail
    refine wp_region_each3 (mV g c 24 m (List.replicate m 0)) (fun W => Below w2.heap.size w2 W) (fun _ A B => Below A.heap.size A B) mD [37, 38, 39, 40, 41, 42, 43, 44, 45, 46, 47, 48, 49, 50, 51, 52, 53, 54, 55, 56, 57, 4] (by kernel_rfl) (by kernel_rfl) (by kernel_rfl) (Below.refl _ w2).drew
      (fun i j oi oj v us A B hoi hoj hij hw hSA hr hv => mV_stable hr hv) ?hgd
      ⟨?_, ?_, ?_, ?_, ?_, ?_, ?_, ?_, ?_, ?_, ?_, ?_, ?_, ?_, ?_, ?_, ?_, ?_, ?_, ?_, ?_, ?_, trivial⟩ ?hend
    case hgd =>
      intro i o g b hoi hog v us w hv
      have hi : i < 22 := (Array.getElem?_eq_some_iff.1 hoi).1
      have hc : i = 0 ∨ i = 1 ∨ i = 2 ∨ i = 3 ∨ i = 4 ∨ i = 5 ∨ i = 6 ∨ i = 7 ∨ i = 8 ∨ i = 9 ∨ i = 10 ∨ i = 11 ∨ i = 12 ∨ i = 13 ∨ i = 14 ∨ i = 15 ∨ i = 16 ∨ i = 17 ∨ i = 18 ∨ i = 19 ∨ i = 20 ∨ i = 21 := by omega
      rcases hc with rfl | rfl | rfl | rfl | rfl | rfl | rfl | rfl | rfl | rfl | rfl | rfl | rfl | rfl | rfl | rfl | rfl | rfl | rfl | rfl | rfl | rfl
      all_goals
        cases hoi
        first
          | (cases hog; done)
          | (cases hog; exact hv)
    case refine_1 =>
      intro a w4 hS h0 hd
      have e5 : a.tmps[5]?.getD undef = .bool true := ev (h0 5 (by kernel_rfl))
      refine Does2.value (.bool true) (w' := w4) ?_ ⟨rfl, hS, Below.refl _ _⟩
      clear hS h0 hd
      go_simp
    case refine_2 =>
      intro a w4 hS h0 hd
      have e37 : a.tmps[37]?.getD undef = .bool true := ev (hd 0 List.mem_cons_self)
      refine Does2.value (.bool true) (w' := w4) ?_ ⟨rfl, hS, Below.refl _ _⟩
      clear hS h0 hd
      go_simp
    case refine_3 =>
      intro a w4 hS h0 hd
      have e9 : a.tmps[9]?.getD undef = .int .i64 0 := ev (h0 9 (by kernel_rfl))
      refine Does2.value (.int .i64 0) (w' := w4) ?_ ⟨rfl, hS, Below.refl _ _⟩
      clear hS h0 hd
      go_simp
    case refine_4 =>
      intro a w4 hS h0 hd
      have e39 : a.tmps[39]?.getD undef = .int .i64 0 := ev (hd 2 List.mem_cons_self)
      refine Does2.value (.bool true) (w' := w4) ?_ ⟨rfl, hS, Below.refl _ _⟩
      clear hS h0 hd
      go_simp
    case refine_5 =>
      intro a w4 hS h0 hd
      have e38 : a.tmps[38]?.getD undef = .bool true := ev (hd 1 List.mem_cons_self)
      have e40 : a.tmps[40]?.getD undef = .bool true := ev (hd 3 (List.mem_cons_of_mem _ List.mem_cons_self))
      refine Does2.value (.bool true) (w' := w4) ?_ ⟨rfl, hS, Below.refl _ _⟩
      clear hS h0 hd
      go_simp
    case refine_6 =>
      intro a w4 hS h0 hd
      have e41 : a.tmps[41]?.getD undef = .bool true := ev (hd 4 List.mem_cons_self)
      refine Does2.value (.bool true) (w' := w4) ?_ ⟨rfl, hS, Below.refl _ _⟩
      clear hS h0 hd
      go_simp
    case refine_7 =>
      intro a w4 hS h0 hd
      have e8 : a.tmps[8]?.getD undef = .slice (some ⟨g, 0, none⟩) (24 + m) c := ev (h0 8 (by kernel_rfl))
      refine Does2.value (.slice (some ⟨g, 0, none⟩) (24 + m) c) (w' := w4) ?_ ⟨rfl, hS, Below.refl _ _⟩
      clear hS h0 hd
      go_simp
    case refine_8 =>
      intro a w4 hS h0 hd
      have e43 : a.tmps[43]?.getD undef = .slice (some ⟨g, 0, none⟩) (24 + m) c := ev (hd 6 List.mem_cons_self)
      refine Does2.value (.int .i64 (24 + m : Nat)) (w' := w4) ?_ ⟨rfl, hS, Below.refl _ _⟩
      clear hS h0 hd
      go_simp
    case refine_9 =>
      intro a w4 hS h0 hd
      have e6 : a.tmps[6]?.getD undef = .int .i64 24 := ev (h0 6 (by kernel_rfl))
      refine Does2.value (.int .i64 (24 : Nat)) (w' := w4) ?_ ⟨rfl, hS, Below.refl _ _⟩
      clear hS h0 hd
      go_simp
    case refine_10 =>
      intro a w4 hS h0 hd
      have e7 : a.tmps[7]?.getD undef = .int .i64 (x % 2000) := ev (h0 7 (by kernel_rfl))
      rw [HM.out] at e7
      refine Does2.value (.int .i64 m) (w' := w4) ?_ ⟨rfl, hS, Below.refl _ _⟩
      clear hS h0 hd
      go_simp
    case refine_11 =>
      intro a w4 hS h0 hd
      have e45 : a.tmps[45]?.getD undef = .int .i64 (24 : Nat) := ev (hd 8 List.mem_cons_self)
      have e46 : a.tmps[46]?.getD undef = .int .i64 m := ev (hd 9 (List.mem_cons_of_mem _ List.mem_cons_self))
      refine Does2.value (.int .i64 (24 + m : Nat)) (w' := w4) ?_ ⟨rfl, hS, Below.refl _ _⟩
      clear hS h0 hd
      have q : IntKind.i64.wrap (24 + (m : Int)) = 24 + (m : Int) := IntWalk.i64_in _ (by omega)
      have q2 : ((24 + m : Nat) : Int) = 24 + (m : Int) := by omega
      go_simp
    case refine_12 =>
      intro a w4 hS h0 hd
      have e44 : a.tmps[44]?.getD undef = .int .i64 (24 + m : Nat) := ev (hd 7 List.mem_cons_self)
      have e47 : a.tmps[47]?.getD undef = .int .i64 (24 + m : Nat) := ev (hd 10 (List.mem_cons_of_mem _ List.mem_cons_self))
      refine Does2.value (.bool true) (w' := w4) ?_ ⟨rfl, hS, Below.refl _ _⟩
      clear hS h0 hd
      go_simp
    case refine_13 =>
      intro a w4 hS h0 hd
      have e42 : a.tmps[42]?.getD undef = .bool true := ev (hd 5 List.mem_cons_self)
      have e48 : a.tmps[48]?.getD undef = .bool true := ev (hd 11 (List.mem_cons_of_mem _ List.mem_cons_self))
      refine Does2.value (.bool true) (w' := w4) ?_ ⟨rfl, hS, Below.refl _ _⟩
      clear hS h0 hd
      go_simp
    case refine_14 =>
      intro a w4 hS h0 hd
      have e49 : a.tmps[49]?.getD undef = .bool true := ev (hd 12 List.mem_cons_self)
      refine Does2.value (.bool true) (w' := w4) ?_ ⟨rfl, hS, Below.refl _ _⟩
      clear hS h0 hd
      go_simp
    case refine_15 =>
      intro a w4 hS h0 hd
      have e8 : a.tmps[8]?.getD undef = .slice (some ⟨g, 0, none⟩) (24 + m) c := ev (h0 8 (by kernel_rfl))
      refine Does2.value (.slice (some ⟨g, 0, none⟩) (24 + m) c) (w' := w4) ?_ ⟨rfl, hS, Below.refl _ _⟩
      clear hS h0 hd
      go_simp
    case refine_16 =>
      intro a w4 hS h0 hd
      have e6 : a.tmps[6]?.getD undef = .int .i64 24 := ev (h0 6 (by kernel_rfl))
      refine Does2.value (.int .i64 (24 : Nat)) (w' := w4) ?_ ⟨rfl, hS, Below.refl _ _⟩
      clear hS h0 hd
      go_simp
    case refine_17 =>
      intro a w4 hS h0 hd
      have e51 : a.tmps[51]?.getD undef = .slice (some ⟨g, 0, none⟩) (24 + m) c := ev (hd 14 List.mem_cons_self)
      have e52 : a.tmps[52]?.getD undef = .int .i64 (24 : Nat) := ev (hd 15 (List.mem_cons_of_mem _ List.mem_cons_self))
      by_cases hcK : c = 24
      · have hm0 : m = 0 := by omega
        refine Does2.value (.slice (some ⟨g, 0, none⟩) m 0) (w' := w4) ?_ ⟨⟨_, _, rfl, ⟨.inl (by rw [hm0]; rfl), isB_rep m⟩⟩, hS, Below.refl _ _⟩
        clear hS h0 hd
        go_simp
      · have hbz : Bs w4 (some ⟨g, 24, none⟩) (List.replicate m 0) := by
          have := bs_drop (bs_below XX.out hS) 24
          rw [HDR.out, Nat.zero_add] at this
          exact this
        refine Does2.value (.slice (some ⟨g, 24, none⟩) m (c - 24)) (w' := w4) ?_ ⟨⟨_, _, rfl, hbz⟩, hS, Below.refl _ _⟩
        have q1' : 24 ≤ 24 + m := by omega
        clear hS h0 hd hbz
        go_simp
        intro hlt
        omega
    case refine_18 =>
      intro a w4 hS h0 hd
      have e7 : a.tmps[7]?.getD undef = .int .i64 (x % 2000) := ev (h0 7 (by kernel_rfl))
      rw [HM.out] at e7
      refine Does2.value (.int .i64 m) (w' := w4) ?_ ⟨rfl, hS, Below.refl _ _⟩
      clear hS h0 hd
      go_simp
    case refine_19 =>
      intro a w4 hS h0 hd
      have e54 : a.tmps[54]?.getD undef = .int .i64 m := ev (hd 17 List.mem_cons_self)
      refine Does2.value (.slice (some ⟨w4.heap.size, 0, none⟩) m m) (w' := w4.alloc (.cells (madeCells #[.int .u8 0] m) 5)) ?_ ⟨⟨_, rfl, MADE.out w4⟩, hS.alloc hS.size _, (Below.refl _ w4).alloc (Nat.le_refl _) _⟩
      have hmk := HMK.out
      clear hS h0 hd
      go_simp
    case refine_20 =>
      intro a w4 hS h0 hd
      obtain ⟨P, cc, e53, hbP⟩ := hd 16 List.mem_cons_self
      obtain ⟨g', e55, hbz⟩ := hd 18 (List.mem_cons_of_mem _ List.mem_cons_self)
      replace e53 := ev e53
      replace e55 := ev e55
      refine Does2.call 16 #[.slice P m cc, .slice (some ⟨g', 0, none⟩) m m] (w' := w4) ?_ ((rSame P (some ⟨g', 0, none⟩) m m cc m (List.replicate m 0) (List.replicate m 0) w4 HZ.out HZ.out (by omega) hbP hbz).mono ?_)
      · clear hS h0 hd hbP hbz
        go_simp
      · rw [same_refl]
        rintro e w5 ⟨rfl, hb⟩
        exact ⟨_, rfl, rfl, hS.trans (hb.mono hS.size), hb⟩
    case refine_21 =>
      intro a w4 hS h0 hd
      have e50 : a.tmps[50]?.getD undef = .bool true := ev (hd 13 List.mem_cons_self)
      have e56 : a.tmps[56]?.getD undef = .bool true := ev (hd 19 (List.mem_cons_of_mem _ List.mem_cons_self))
      refine Does2.value (.bool true) (w' := w4) ?_ ⟨rfl, hS, Below.refl _ _⟩
      clear hS h0 hd
      go_simp
    case refine_22 =>
      intro a w4 hS h0 hd
      have e57 : a.tmps[57]?.getD undef = .bool true := ev (hd 20 List.mem_cons_self)
      refine Does2.value (.bool true) (w' := w4) ?_ ⟨rfl, hS, Below.refl _ _⟩
      clear hS h0 hd
      go_simp
    case hend =>
      intro f2 w5 hS hV
      have e4 : f2 4 = .bool true := hV 21 (by decide)
      simp only [putAll, Act.put, List.setIfInBounds_toArray, List.set_cons_zero, List.set_cons_succ, e4]
      have W5 := Lib.hid (W2.out.trans (hS.mono W2.out.size))
      clear hV hS e4
      go_wp2_with fail
      go_ret
      exact ⟨rfl, W5.out⟩
theorem walk (w : World) (s : Int) (hs : 0 ≤ s ∧ s ≤ 4294967295) (d : Int) (hd : 0 ≤ d ∧ d ≤ 4294967295) (p : Int) (hp : 0 ≤ p ∧ p ≤ 255) (t : Int) (ht : 0 ≤ t ∧ t ≤ 255) (i : Int) (hi : 0 ≤ i ∧ i ≤ 65535) (al : Bool) (x : Int) (hx : 0 ≤ x ∧ x ≤ 65535) :
    Calls Try.prog 8 #[.agg #[.int .u32 s, .int .u32 d, .int .u8 p, .int .u8 t, .int .u16 i, .bool al], .int .u16 x] w fun e w' => e = .returned (.bool true) ∧ Below w.heap.size w w' := by
  cases al
  · exact walk_f w ⟨s, d, p, t, i, false⟩ ⟨hs, hd, hp, ht, hi⟩ rfl x hx
  · exact walk_t w ⟨s, d, p, t, i, true⟩ ⟨hs, hd, hp, ht, hi⟩ rfl x hx

theorem contract (H : Type) (enc : TypeId × Value → H) (W : World) (base : Nat) (args : Array Value) (ds gs : List (DataW H)) (before : List MemPlace)
    (hval : ∀ (j : Nat) t v, Try.f8.params[j]? = some t → args[j]? = some v → Value.okWide Try.prog W .any base t v)
    (hW : DataW.Whole enc Try.prog Try.f8.params.toList Rows.ipLongSpec.vars false W args.toList ds gs before) :
    Calls Try.prog 8 args W fun e W' => ∃ v, e = .returned v ∧ Rows.ipLongSpec.post enc Try.prog Try.f8 false true false false W args v W' := by
  have hW' := hW
  obtain ⟨p, q, hA0, hV, rfl, hfz, hnd⟩ := hW
  have hA : DataW.TrodAll enc Try.prog W 0 (fun _ => true) true Try.f8.params.toList args.toList ds p := hA0
  rw [Try.params8] at hA hval
  obtain ⟨v0, vs0, d0, ds0, p0, q0, hargs, rfl, rfl, h0, r0⟩ := trodAll_cons hA
  obtain ⟨v1, vs1, d1, ds1, p1, q1, rfl, rfl, rfl, h1, r1⟩ := trodAll_cons r0
  obtain ⟨rfl, rfl, rfl⟩ := trodAll_nil r1
  obtain rfl : args = #[v0, v1] := by cases args; simp_all
  obtain ⟨rfl, rfl⟩ := trodVars_none hV
  have k0 := h0
  have lt0 : ∀ x ∈ p0, x.block < W.heap.size := by obtain ⟨m, hm⟩ := k0; exact DataW.trod_lt m _ _ _ hm
  have k1 := h1
  have lt1 : ∀ x ∈ p1, x.block < W.heap.size := by obtain ⟨m, hm⟩ := k1; exact DataW.trod_lt m _ _ _ hm
  obtain ⟨cs0, nf0, rfl, hlen0, hf0⟩ := agg_open Try.underlying26 (by kernel_rfl) (by kernel_rfl) (hval 0 26 v0 rfl rfl) h0
  match cs0, hlen0 with
  | [c0_0, c0_1, c0_2, c0_3, c0_4, c0_5], _ =>
  obtain ⟨_, _, e0_0, t0_0⟩ := hf0 0 _ rfl
  simp at e0_0
  subst e0_0
  obtain ⟨x0_0, q0_0, _, w0_0⟩ := DataW.trod_int Try.underlying23 t0_0
  simp at q0_0
  subst q0_0
  obtain ⟨_, _, e0_1, t0_1⟩ := hf0 1 _ rfl
  simp at e0_1
  subst e0_1
  obtain ⟨x0_1, q0_1, _, w0_1⟩ := DataW.trod_int Try.underlying23 t0_1
  simp at q0_1
  subst q0_1
  obtain ⟨_, _, e0_2, t0_2⟩ := hf0 2 _ rfl
  simp at e0_2
  subst e0_2
  obtain ⟨x0_2, q0_2, _, w0_2⟩ := DataW.trod_int Try.underlying5 t0_2
  simp at q0_2
  subst q0_2
  obtain ⟨_, _, e0_3, t0_3⟩ := hf0 3 _ rfl
  simp at e0_3
  subst e0_3
  obtain ⟨x0_3, q0_3, _, w0_3⟩ := DataW.trod_int Try.underlying5 t0_3
  simp at q0_3
  subst q0_3
  obtain ⟨_, _, e0_4, t0_4⟩ := hf0 4 _ rfl
  simp at e0_4
  subst e0_4
  obtain ⟨x0_4, q0_4, _, w0_4⟩ := DataW.trod_int Try.underlying24 t0_4
  simp at q0_4
  subst q0_4
  obtain ⟨_, _, e0_5, t0_5⟩ := hf0 5 _ rfl
  simp at e0_5
  subst e0_5
  obtain ⟨x0_5, q0_5, _⟩ := DataW.trod_bool Try.underlying4 t0_5
  simp at q0_5
  subst q0_5
  obtain ⟨a1, rfl, rfl, rfl, w1⟩ := open_int Try.underlying24 (hval 1 24 v1 rfl rfl) h1
  clear hA0
  refine (walk W x0_0 (bounds_u32 w0_0) x0_1 (bounds_u32 w0_1) x0_2 (bounds_u8 w0_2) x0_3 (bounds_u8 w0_3) x0_4 (bounds_u16 w0_4) x0_5 a1 (bounds_u16 w1)).mono fun e W' ⟨he, bel⟩ => ?_
  subst he
  exact ⟨_, rfl, _, _, _, [], _, [], hW', trodAll_mk1 (shut_bool Try.underlying4 _), (trodAll_cons_mk (Below.trod laidOut (by kernel_rfl) (of_decide_eq_true (by kernel_rfl)) k0 bel lt0) (trodAll_cons_mk (Below.trod laidOut (by kernel_rfl) (of_decide_eq_true (by kernel_rfl)) k1 bel lt1) trodAll_mk0)), rfl, bel.frame _, fun h => by cases h⟩

set_option maxRecDepth 100000 in
theorem lifted (os : Os) (started : os.Started) (H : Type) (enc : TypeId × Value → H) :
    ReturnsInHanded {} Try.checked os 8 .any (Rows.ipLongSpec.pre6 enc Try.prog Try.f8 Rows.ipLongRow.domain false) (Rows.ipLongSpec.post enc Try.prog Try.f8 false true false false) := by
  refine returnsInHanded_of_change (C := Try.checked) own started (by kernel_rfl) Try.func8
    (ChangeSpec.witness6 (enc := enc) (C := Try.checked) false ⟨#[], #[(.agg #[(.int .u32 0), (.int .u32 0), (.int .u8 0), (.int .u8 0), (.int .u16 0), (.bool false)]), (.int .u16 0)], []⟩ 8 (by kernel_rfl) (by kernel_rfl) (by kernel_rfl) (by kernel_rfl)) ?_
  intro W base args ds gs before hval hW hcnd _
  exact contract H enc W base args ds gs before hval hW
theorem said : Rows.IpLongSaid :=
  OpenClaim.holds_of_wide 8 Try.f8 rfl rfl rfl rfl rfl rfl rfl ⟨rfl, rfl, rfl, rfl, rfl⟩ rfl rfl rfl rfl rfl (by kernel_rfl) Try.func8 (by kernel_rfl)
    (of_decide_eq_true (by kernel_rfl)) (by unfold Func.isWrapper; first | (rw [if_pos (by decide +kernel)]; kernel_rfl) | (rw [if_neg (by decide +kernel)]; exact ⟨rfl, rfl⟩))
    (fun os started H enc _ => lifted os started H enc)
#print axioms said
end Go.Proofs.Ythmejokjbkkfbaa.ipLong
