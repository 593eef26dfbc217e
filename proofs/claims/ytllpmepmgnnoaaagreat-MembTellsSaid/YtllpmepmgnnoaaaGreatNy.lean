/- The library's sort: the breaking of patterns, walked. -/
import Derived.Test.YtllpmepmgnnoaaaGreatNx
namespace Go.Proofs.YtllpmepmgnnoaaaGreat
set_option linter.unusedVariables false
open Go.RowKit
open Go.Sort (PermIn bitsLen xorNextN)

theorem u64_new (w : World) (X : Nat) (T : TypeId) (hX : X < 18446744073709551616) : U64At (w.alloc (.cells #[.int .u64 X] T)) w.heap.size X := by
  refine ⟨⟨cell_new w _ _ _, ?_⟩, hX⟩
  unfold World.frozen?
  simp only [Go.Deep.blk_alloc_new]
  simp

set_option maxHeartbeats 4000000 in
theorem sBrk (g off cap a b n : Nat) (d : Array Int) (w : World) (h : Arr w g off d) (hn : d.size = n) (hab : a + 12 < b) (hb : b ≤ n) (hsz : n < 1152921504606846976) :
    Calls Tryz.prog 81 #[.slice (some ⟨g, off, none⟩) n cap, .int .i64 a, .int .i64 b] w fun e w' =>
      e = .returned (.tuple #[]) ∧ ∃ d', PermIn a b d d' ∧ Arr w' g off d' ∧ But1 g w w' := by
  have hne : w.heap.size ≠ g := by have := h.lt; omega
  have HA := Lib.hid h
  have hgl := h.lt
  clear h
  obtain ⟨len, p, e1, e3, hl8, hlen, hp, hp2⟩ : ∃ len p : Nat, (b : Int) - (a : Int) = (len : Int) ∧ (a : Int) + (len : Int) / 4 * 2 = (p : Int) ∧ 8 ≤ len ∧ a + len = b ∧ a + 2 ≤ p ∧ p + 1 < b :=
    ⟨b - a, a + (b - a) / 4 * 2, by omega, by omega, by omega, by omega, by omega, by omega⟩
  obtain ⟨M, hM2, hM⟩ := sPow1 len (by omega) (by omega)
  have HM := Lib.hid hM
  clear hM
  go_enter Tryz.func81, Tryz.ntmps81
  go_wp2_with (go_at_call 97; refine (HM.out _).mono ?_; rintro e w1 ⟨rfl, rfl⟩)
  go_loopw [9] (fun v wr => ∃ (i X : Nat) (dk : Array Int), v = .int .i64 i ∧ p ≤ i + 1 ∧ i ≤ p + 2 ∧ dk.size = n ∧ Arr wr g off dk ∧ But1 g w wr ∧ U64At wr w.heap.size X ∧ PermIn a b d dk)
    (fun v _ => p + 2 - (intOf v).toNat)
  case atStart =>
    refine ⟨p - 1, len, d, by congr 1; omega, by omega, by omega, hn, HA.out.below (bel1 w _) hgl, But1.of_below (bel1 w _), ?_, Go.Sort.permIn_refl _ _ _⟩
    exact u64_new w len _ (by omega)
  case round =>
    obtain ⟨i, X, dk, rfl, hi1, hi2, hsk, hA, hB, hX, hP⟩ := hrel
    have HAK := Lib.hid hA
    have HB := Lib.hid hB
    have HX := Lib.hid hX
    have HP := Lib.hid hP
    clear hA hB hX hP
    by_cases hlt : i ≤ p + 1
    · obtain ⟨o, ho, ho2⟩ := and64 (xorNextN X) M (Go.Sort.xorNextN_lt X HX.out.2) (by omega)
      go_wp2_with fail
      refine (sNext w.heap.size X HX.out.2 _ HX.out.1.1 HX.out.1.2).mono ?_
      rintro e w1 ⟨rfl, rfl⟩
      have HA1 := Lib.hid (HAK.out.but (w' := (wr.setCell ⟨w.heap.size, 0, none⟩ (.int .u64 (xorNextN X : Nat))).drewN 3) ⟨rfl, rfl, rfl, by simp [World.setCell, World.drewN], fun k hk hne => Below.heap_setCell wr ⟨w.heap.size, 0, none⟩ _ k hne⟩ (Ne.symm hne))
      have HB1 := Lib.hid (HB.out.far (j := 0) (Nat.le_refl _) (.int .u64 (xorNextN X : Nat)) 3)
      have HX1 := Lib.hid HX.out.next
      generalize hwg : (wr.setCell ⟨w.heap.size, 0, none⟩ (.int .u64 (xorNextN X : Nat))).drewN 3 = w1 at HA1 HB1 HX1 ⊢
      clear hwg HAK HB HX
      obtain ⟨G, hG, hcw, hfw⟩ := HA1.out.fam hsk
      have HG := Lib.hid hG
      clear hG
      have SW : ∀ (k q : Nat) x y jj, k < len → x = G (a + k) → y = G i → jj = a + k → ∃ dk' : Array Int, dk'.size = n ∧ Arr (((w1.drewN q).setCell ⟨g, off + i, none⟩ (.int .u32 x)).setCell ⟨g, off + jj, none⟩ (.int .u32 y)) g off dk' ∧
          But1 g w (((w1.drewN q).setCell ⟨g, off + i, none⟩ (.int .u32 x)).setCell ⟨g, off + jj, none⟩ (.int .u32 y)) ∧ U64At (((w1.drewN q).setCell ⟨g, off + i, none⟩ (.int .u32 x)).setCell ⟨g, off + jj, none⟩ (.int .u32 y)) w.heap.size (xorNextN X) ∧ PermIn a b d dk' := by
        rintro k q x y jj hk rfl rfl rfl
        refine ⟨Go.Sort.swp dk i (a + k), by rw [Go.Sort.size_swp]; exact hsk, ?_, (HB1.out.drewN q).swp _ _ _ _, ?_, perm_swp HP.out (by omega) (by omega) (by omega) (by omega) (by omega)⟩
        · rw [HG.out, HG.out]
          exact (HA1.out.drewN q).swp _ _ (by omega) (by omega)
        · exact HX1.out.but (((But1.refl g w1).drewN q).swp _ _ _ _) hne
      have SW := Lib.hid SW
      clear HA1 HB1 HX1 HP HG
      by_cases hol : o < len
      · by_cases hal : i = a + o
        · have hal2 : (a : Int) + (o : Int) = (i : Int) := by omega
          have HAL := Lib.hid hal
          clear hal
          go_wp2_with fail
          go_region
          go_wp2
          go_roundw
          case rel =>
            obtain ⟨dk', s1, s2, s3, s4, s5⟩ := SW.out o 1 _ _ _ hol (congrArg G HAL.out) rfl HAL.out
            exact ⟨i + 1, xorNextN X, dk', by go_num, by omega, by omega, s1, s2, s3, s4, s5⟩
          case measure => simp [intOf]; omega
        · go_wp2_with fail
          go_region
          go_wp2
          go_roundw
          case rel =>
            obtain ⟨dk', s1, s2, s3, s4, s5⟩ := SW.out o 1 _ _ _ hol rfl rfl rfl
            exact ⟨i + 1, xorNextN X, dk', by go_num, by omega, by omega, s1, s2, s3, s4, s5⟩
          case measure => simp [intOf]; omega
      · obtain ⟨o', ho3⟩ : ∃ o' : Nat, (o : Int) - (len : Int) = (o' : Int) := ⟨o - len, by omega⟩
        have ho4 : o' < len := by omega
        by_cases hal : i = a + o'
        · have hal2 : (a : Int) + (o' : Int) = (i : Int) := by omega
          have HAL := Lib.hid hal
          clear hal
          go_wp2_with fail
          go_region
          go_wp2
          go_roundw
          case rel =>
            obtain ⟨dk', s1, s2, s3, s4, s5⟩ := SW.out o' 1 _ _ _ ho4 (congrArg G HAL.out) rfl HAL.out
            exact ⟨i + 1, xorNextN X, dk', by go_num, by omega, by omega, s1, s2, s3, s4, s5⟩
          case measure => simp [intOf]; omega
        · go_wp2_with fail
          go_region
          go_wp2
          go_roundw
          case rel =>
            obtain ⟨dk', s1, s2, s3, s4, s5⟩ := SW.out o' 1 _ _ _ ho4 rfl rfl rfl
            exact ⟨i + 1, xorNextN X, dk', by go_num, by omega, by omega, s1, s2, s3, s4, s5⟩
          case measure => simp [intOf]; omega
    · go_wp2
      go_end0
      exact ⟨rfl, dk, HP.out, HAK.out, HB.out⟩
end Go.Proofs.YtllpmepmgnnoaaaGreat
