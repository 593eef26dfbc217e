/- The library's sort: medians, the choice of a pivot. -/
import Derived.Test.YtiabbkjmgaemaaaGreatDB0
import Derived.Test.YtiabbkjmgaemaaaGreatDB1
import Derived.Test.YtiabbkjmgaemaaaGreatDB2
import Derived.Test.YtiabbkjmgaemaaaGreatLaid
import Derived.Sort.LotD1
import Derived.Laws.BitsLemmas
import Derived.Deep.Cut
import Derived.Deep.CutRange
namespace Go.Proofs.YtiabbkjmgaemaaaGreat
set_option linter.unusedVariables false
open Go.RowKit
open Go.Sort (PermIn)

set_option maxHeartbeats 2000000 in
theorem sMed (g off cap a b c n lo hi R : Nat) (s : Int) (d : Array Int) (w : World) (h : Arr w g off d) (hn : d.size = n) (hhi : hi ≤ n) (ha : lo ≤ a) (ha' : a < hi) (hb : lo ≤ b) (hb' : b < hi) (hc : lo ≤ c) (hc' : c < hi) (hsz : n < 1152921504606846976) (hR : IntAt w R s) (hne : g ≠ R) :
    Calls Tryz.prog 161 #[.slice (some ⟨g, off, none⟩) n cap, .int .i64 a, .int .i64 b, .int .i64 c, .pointer (some ⟨R, 0, none⟩)] w fun e w' =>
      ∃ (x : Nat) (t : Int), e = .returned (.int .i64 x) ∧ (lo ≤ x ∧ x < hi) ∧ IntAt w' R t ∧ But1 R w w' := by
  have HA := Lib.hid h
  have HR := Lib.hid hR
  clear h hR
  go_enter Tryz.func161, Tryz.ntmps161
  go_wp2_with fail
  refine (sOrd g off cap a b n lo hi R s d _ HA.out hn hhi ha ha' hb hb' hsz HR.out).mono ?_
  rintro e w1 ⟨x1, y1, t1, rfl, hx1, hy1, hR1, hB1⟩
  have HR1 := Lib.hid hR1
  have HB1 := Lib.hid hB1
  have HA1 := Lib.hid (HA.out.but hB1 hne)
  clear hR1 hB1
  go_wp2_with fail
  refine (sOrd g off cap y1 c n lo hi R t1 d _ HA1.out hn hhi hy1.1 hy1.2 hc hc' hsz HR1.out).mono ?_
  rintro e w2 ⟨x2, y2, t2, rfl, hx2, hy2, hR2, hB2⟩
  have HR2 := Lib.hid hR2
  have HB2 := Lib.hid (HB1.out.trans hB2)
  have HA2 := Lib.hid (HA1.out.but hB2 hne)
  clear hR2 hB2
  go_wp2_with fail
  refine (sOrd g off cap x1 x2 n lo hi R t2 d _ HA2.out hn hhi hx1.1 hx1.2 hx2.1 hx2.2 hsz HR2.out).mono ?_
  rintro e w3 ⟨x3, y3, t3, rfl, hx3, hy3, hR3, hB3⟩
  have HR3 := Lib.hid hR3
  have HB3 := Lib.hid (HB2.out.trans hB3)
  clear hR3 hB3
  go_wp2
  go_ret
  exact ⟨y3, t3, rfl, hy3, HR3.out, HB3.out⟩

set_option maxHeartbeats 2000000 in
theorem sAdj (g off cap a n lo hi R : Nat) (s : Int) (d : Array Int) (w : World) (h : Arr w g off d) (hn : d.size = n) (hhi : hi ≤ n) (ha : lo + 1 ≤ a) (ha' : a + 1 < hi) (hsz : n < 1152921504606846976) (hR : IntAt w R s) (hne : g ≠ R) :
    Calls Tryz.prog 160 #[.slice (some ⟨g, off, none⟩) n cap, .int .i64 a, .pointer (some ⟨R, 0, none⟩)] w fun e w' =>
      ∃ (x : Nat) (t : Int), e = .returned (.int .i64 x) ∧ (lo ≤ x ∧ x < hi) ∧ IntAt w' R t ∧ But1 R w w' := by
  have HA := Lib.hid h
  have HR := Lib.hid hR
  clear h hR
  obtain ⟨a0, rfl⟩ : ∃ a0, a = a0 + 1 := ⟨a - 1, by omega⟩
  have e1 : ((a0 + 1 : Nat) : Int) - 1 = (a0 : Int) := by omega
  have E1 := Lib.hid e1
  clear e1
  go_enter Tryz.func160, Tryz.ntmps160
  go_wp2_with fail
  refine (sMed g off cap a0 (a0 + 1) (a0 + 1 + 1) n lo hi R s d _ HA.out hn hhi (by omega) (by omega) (by omega) (by omega) (by omega) (by omega) hsz HR.out hne).mono ?_
  rintro e w1 ⟨x, t, rfl, hx, hR1, hB1⟩
  have HR1 := Lib.hid hR1
  have HB1 := Lib.hid hB1
  clear hR1 hB1
  go_wp2
  go_ret
  exact ⟨x, t, rfl, hx, HR1.out, HB1.out⟩

theorem intAt_new (w : World) (s : Int) (T : TypeId) : IntAt (w.alloc (.cells #[.int .i64 s] T)) w.heap.size s := by
  refine ⟨cell_new w _ _ _, ?_⟩
  unfold World.frozen?
  simp only [Go.Deep.blk_alloc_new]
  simp
theorem but1_new {w w1 : World} {o : Obj} (h : But1 w.heap.size (w.alloc o) w1) : Below w.heap.size w w1 := (bel1 w o).trans (h.below (Nat.le_refl _) (by simp))

set_option maxHeartbeats 4000000 in
theorem sPiv (g off cap a b n : Nat) (d : Array Int) (w : World) (h : Arr w g off d) (hn : d.size = n) (hab : a + 12 < b) (hb : b ≤ n) (hsz : n < 1152921504606846976) :
    Calls Tryz.prog 141 #[.slice (some ⟨g, off, none⟩) n cap, .int .i64 a, .int .i64 b] w fun e w' =>
      ∃ (x : Nat) (hint : Int), e = .returned (.tuple #[.int .i64 x, .int .i64 hint]) ∧ (a ≤ x ∧ x < b) ∧ Below w.heap.size w w' := by
  have hne : g ≠ w.heap.size := by have := h.lt; omega
  have HA := Lib.hid (h.below (bel1 w (.cells #[.int .i64 0] 3)) h.lt)
  clear h
  have hR := intAt_new w 0 3
  have HR := Lib.hid hR
  clear hR
  obtain ⟨i, j, k, e3, e4, e5, hi, hj, hk, hb5⟩ : ∃ i j k : Nat, (a : Int) + ((b : Int) - a) / 4 = (i : Int) ∧ (a : Int) + ((b : Int) - a) / 4 * 2 = (j : Int) ∧ (a : Int) + ((b : Int) - a) / 4 * 3 = (k : Int) ∧ (a ≤ i ∧ i < b) ∧ (a ≤ j ∧ j < b) ∧ (a ≤ k ∧ k < b) ∧
      (50 ≤ b - a → (a + 1 ≤ i ∧ i + 1 < b) ∧ (a + 1 ≤ j ∧ j + 1 < b) ∧ (a + 1 ≤ k ∧ k + 1 < b)) :=
    ⟨a + (b - a) / 4, a + (b - a) / 4 * 2, a + (b - a) / 4 * 3, by omega, by omega, by omega, by omega, by omega, by omega, by omega⟩
  have E3 := Lib.hid e3
  have E4 := Lib.hid e4
  have E5 := Lib.hid e5
  clear e3 e4 e5
  have FIN : ∀ (x : Nat) (hint : Int) (w' : World), (a ≤ x ∧ x < b) → But1 w.heap.size (w.alloc (.cells #[.int .i64 0] 3)) w' → ∃ (x' : Nat) (hint' : Int), Ending.returned (Value.tuple #[.int .i64 x, .int .i64 hint]) = .returned (.tuple #[.int .i64 x', .int .i64 hint']) ∧ (a ≤ x' ∧ x' < b) ∧ Below w.heap.size w w' :=
    fun x hint w' h1 h2 => ⟨x, hint, rfl, h1, but1_new h2⟩
  have FIN := Lib.hid FIN
  go_enter Tryz.func141, Tryz.ntmps141
  by_cases h50 : 50 ≤ b - a
  · obtain ⟨hi5, hj5, hk5⟩ := hb5 h50
    clear hb5
    go_wp2_with fail
    rw [E3.out, E4.out, E5.out]
    refine (sAdj g off cap i n a b w.heap.size 0 d _ HA.out hn hb hi5.1 hi5.2 hsz HR.out hne).mono ?_
    rintro e w1 ⟨x1, t1, rfl, hx1, hR1, hB1⟩
    have HR1 := Lib.hid hR1
    have HB1 := Lib.hid (id hB1)
    have HA1 := Lib.hid (HA.out.but hB1 hne)
    clear hR1 hB1
    go_wp2_with fail
    refine (sAdj g off cap j n a b w.heap.size t1 d _ HA1.out hn hb hj5.1 hj5.2 hsz HR1.out hne).mono ?_
    rintro e w2 ⟨x2, t2, rfl, hx2, hR2, hB2⟩
    have HR2 := Lib.hid hR2
    have HB2 := Lib.hid (HB1.out.trans hB2)
    have HA2 := Lib.hid (HA1.out.but hB2 hne)
    clear hR2 hB2
    go_wp2_with fail
    refine (sAdj g off cap k n a b w.heap.size t2 d _ HA2.out hn hb hk5.1 hk5.2 hsz HR2.out hne).mono ?_
    rintro e w3 ⟨x3, t3, rfl, hx3, hR3, hB3⟩
    have HR3 := Lib.hid hR3
    have HB3 := Lib.hid (HB2.out.trans hB3)
    have HA3 := Lib.hid (HA2.out.but hB3 hne)
    clear hR3 hB3
    go_wp2_with fail
    refine (sMed g off cap x1 x2 x3 n a b w.heap.size t3 d _ HA3.out hn hb hx1.1 hx1.2 hx2.1 hx2.2 hx3.1 hx3.2 hsz HR3.out hne).mono ?_
    rintro e w4 ⟨x4, t4, rfl, hx4, hR4, hB4⟩
    have HB4 := Lib.hid (HB3.out.trans hB4)
    obtain ⟨c4, f4⟩ := hR4
    clear hB4
    go_wp2
    all_goals (go_ret2; exact FIN.out _ _ _ hx4 HB4.out)
  · clear hb5
    go_wp2_with fail
    rw [E3.out, E4.out, E5.out]
    refine (sMed g off cap i j k n a b w.heap.size 0 d _ HA.out hn hb hi.1 hi.2 hj.1 hj.2 hk.1 hk.2 hsz HR.out hne).mono ?_
    rintro e w4 ⟨x4, t4, rfl, hx4, hR4, hB4⟩
    have HB4 := Lib.hid hB4
    obtain ⟨c4, f4⟩ := hR4
    clear hB4
    go_wp2
    all_goals (go_ret2; exact FIN.out _ _ _ hx4 HB4.out)
end Go.Proofs.YtiabbkjmgaemaaaGreat
/- The library's sort: the breaking of patterns. -/
namespace Go.Proofs.YtiabbkjmgaemaaaGreat
set_option linter.unusedVariables false
open Go.RowKit
open Go.Sort (PermIn bitsLen xorNextN)

theorem sNext (R X : Nat) (hX : X < 18446744073709551616) (w : World) (hc : w.cell? ⟨R, 0, none⟩ = some (.int .u64 X)) (hf : w.frozen? ⟨R, 0, none⟩ = false) :
    Calls Tryz.prog 159 #[.pointer (some ⟨R, 0, none⟩)] w fun e w' => e = .returned (.int .u64 (xorNextN X : Nat)) ∧ w' = (w.setCell ⟨R, 0, none⟩ (.int .u64 (xorNextN X : Nat))).drewN 3 :=
  AnyF.xorshift_Next Tryz.layX R 0 X hX w hc hf
theorem sPow (n : Nat) (hn : n < 4611686018427387904) (w : World) :
    Calls Tryz.prog 158 #[.int .i64 n] w fun e w' => e = .returned (.int .u64 ((1 <<< bitsLen n : Nat) : Int)) ∧ w' = w :=
  AnyF.nextPowerOfTwo Tryz.layP n hn w
theorem pow_two (len : Nat) (h : 0 < len) : ∃ M : Nat, 1 <<< bitsLen len = M + 1 ∧ M < 2 * len := by
  have h1 := Go.Sort.two_pow_bitsLen_le h
  have h2 : 0 < 2 ^ bitsLen len := Nat.pos_of_ne_zero (by simp)
  rw [Nat.one_shiftLeft]
  exact ⟨2 ^ bitsLen len - 1, by omega, by omega⟩
theorem sPow1 (len : Nat) (h : 0 < len) (hn : len < 4611686018427387904) : ∃ M : Nat, M < 2 * len ∧ ∀ w, Calls Tryz.prog 158 #[.int .i64 len] w fun e w' => e = .returned (.int .u64 ((M : Int) + 1)) ∧ w' = w := by
  obtain ⟨M, hM, hM2⟩ := pow_two len h
  refine ⟨M, hM2, fun w => ?_⟩
  have := sPow len hn w
  rw [hM] at this
  exact this
theorem and64 (x y : Nat) (hx : x < 18446744073709551616) (hy : y < 18446744073709551616) : ∃ o : Nat, bits .and .u64 (x : Int) (y : Int) = (o : Int) ∧ o ≤ y := by
  refine ⟨x &&& y, ?_, Nat.and_le_right⟩
  have hz : x &&& y ≤ y := Nat.and_le_right
  show IntKind.u64.wrap ((BitVec.ofInt 64 (x : Int) &&& BitVec.ofInt 64 (y : Int)).toNat : Int) = _
  rw [BitVec.ofInt_natCast, BitVec.ofInt_natCast, BitVec.toNat_and, BitVec.toNat_ofNat, BitVec.toNat_ofNat, Nat.mod_eq_of_lt (by omega), Nat.mod_eq_of_lt (by omega), IntKind.wrap_u64]
  omega
/-- A number of 64 bits in a variable of its own. -/
def U64At (w : World) (R X : Nat) : Prop := (w.cell? ⟨R, 0, none⟩ = some (.int .u64 X) ∧ w.frozen? ⟨R, 0, none⟩ = false) ∧ X < 18446744073709551616
theorem U64At.next {w : World} {R X : Nat} (h : U64At w R X) : U64At ((w.setCell ⟨R, 0, none⟩ (.int .u64 (xorNextN X : Nat))).drewN 3) R (xorNextN X) :=
  ⟨⟨World.cell?_setCell_same' _ _ _ (by rw [h.1.1]; rfl), (World.frozen?_setCell _ _ _ _).trans h.1.2⟩, Go.Sort.xorNextN_lt X h.2⟩
theorem U64At.but {w w' : World} {R X g : Nat} (h : U64At w R X) (hb : But1 g w w') (hne : R ≠ g) : U64At w' R X := by
  have hR : R < w.heap.size := cell_lt h.1.1
  exact ⟨⟨(hb.cell (p := ⟨R, 0, none⟩) hR hne).trans h.1.1, (World.frozen?_of_block (w := w) (hb.block R hR hne)).trans h.1.2⟩, h.2⟩
theorem But1.far {w w' : World} {g R j : Nat} (h : But1 g w w') (hR : w.heap.size ≤ R) (v : Value) (q : Nat) : But1 g w ((w'.setCell ⟨R, j, none⟩ v).drewN q) :=
  ⟨h.os, h.tape, h.output, by simp [World.setCell, World.drewN]; exact h.size, fun i hi hne => by
    show (w'.setCell ⟨R, j, none⟩ v).heap[i]? = _
    rw [Below.heap_setCell w' ⟨R, j, none⟩ v i (by show i ≠ R; omega)]
    exact h.block i hi hne⟩
end Go.Proofs.YtiabbkjmgaemaaaGreat
/- The library's sort: the breaking of patterns, walked. -/
namespace Go.Proofs.YtiabbkjmgaemaaaGreat
set_option linter.unusedVariables false
open Go.RowKit
open Go.Sort (PermIn bitsLen xorNextN)

theorem u64_new (w : World) (X : Nat) (T : TypeId) (hX : X < 18446744073709551616) : U64At (w.alloc (.cells #[.int .u64 X] T)) w.heap.size X := by
  refine ⟨⟨cell_new w _ _ _, ?_⟩, hX⟩
  unfold World.frozen?
  simp only [Go.Deep.blk_alloc_new]
  simp

set_option maxHeartbeats 4000000 in
theorem sBrk (g off cap a b n : Nat) (d : Array Int) (w : World) (h : Arr w g off d) (hn : d.size = n) (hab : a + 12 < b) (hb : b ≤ n) (hsz : n < 1152921504606846976) :
    Calls Tryz.prog 140 #[.slice (some ⟨g, off, none⟩) n cap, .int .i64 a, .int .i64 b] w fun e w' =>
      e = .returned (.tuple #[]) ∧ ∃ d', PermIn a b d d' ∧ Arr w' g off d' ∧ But1 g w w' := by
  have hne : w.heap.size ≠ g := by have := h.lt; omega
  have HA := Lib.hid h
  have hgl := h.lt
  clear h
  obtain ⟨len, p, e1, e3, hl8, hlen, hp, hp2⟩ : ∃ len p : Nat, (b : Int) - (a : Int) = (len : Int) ∧ (a : Int) + (len : Int) / 4 * 2 = (p : Int) ∧ 8 ≤ len ∧ a + len = b ∧ a + 2 ≤ p ∧ p + 1 < b :=
    ⟨b - a, a + (b - a) / 4 * 2, by omega, by omega, by omega, by omega, by omega, by omega⟩
  obtain ⟨M, hM2, hM⟩ := sPow1 len (by omega) (by omega)
  have HM := Lib.hid hM
  clear hM
  go_enter Tryz.func140, Tryz.ntmps140
  go_wp2_with (go_at_call 158; refine (HM.out _).mono ?_; rintro e w1 ⟨rfl, rfl⟩)
  go_loopw [9] (fun v wr => ∃ (i X : Nat) (dk : Array Int), v = .int .i64 i ∧ p ≤ i + 1 ∧ i ≤ p + 2 ∧ dk.size = n ∧ Arr wr g off dk ∧ But1 g w wr ∧ U64At wr w.heap.size X ∧ PermIn a b d dk)
    (fun v _ => p + 2 - (intOf v).toNat)
  case atStart =>
    refine ⟨p - 1, len, d, by congr 1; omega, by omega, by omega, hn, HA.out.below (bel1 w _) hgl, But1.of_below (bel1 w _), ?_, Go.Sort.permIn_refl _ _ _⟩
    exact u64_new w len _ (by omega)
  case round =>
    obtain ⟨i, X, dk, rfl, hi1, hi2, hsk, hA, hB, hX, hP⟩ := hrel
    have HAK := Lib.hid hA
    have HB := Lib.hid hB
    have HX := Lib.hid hX
    have HP := Lib.hid hP
    clear hA hB hX hP
    by_cases hlt : i ≤ p + 1
    · obtain ⟨o, ho, ho2⟩ := and64 (xorNextN X) M (Go.Sort.xorNextN_lt X HX.out.2) (by omega)
      go_wp2_with fail
      refine (sNext w.heap.size X HX.out.2 _ HX.out.1.1 HX.out.1.2).mono ?_
      rintro e w1 ⟨rfl, rfl⟩
      have HA1 := Lib.hid (HAK.out.but (w' := (wr.setCell ⟨w.heap.size, 0, none⟩ (.int .u64 (xorNextN X : Nat))).drewN 3) ⟨rfl, rfl, rfl, by simp [World.setCell, World.drewN], fun k hk hne => Below.heap_setCell wr ⟨w.heap.size, 0, none⟩ _ k hne⟩ (Ne.symm hne))
      have HB1 := Lib.hid (HB.out.far (j := 0) (Nat.le_refl _) (.int .u64 (xorNextN X : Nat)) 3)
      have HX1 := Lib.hid HX.out.next
      generalize hwg : (wr.setCell ⟨w.heap.size, 0, none⟩ (.int .u64 (xorNextN X : Nat))).drewN 3 = w1 at HA1 HB1 HX1 ⊢
      clear hwg HAK HB HX
      obtain ⟨G, hG, hcw, hfw⟩ := HA1.out.fam hsk
      have HG := Lib.hid hG
      clear hG
      have SW : ∀ (k q : Nat) x y jj, k < len → x = G (a + k) → y = G i → jj = a + k → ∃ dk' : Array Int, dk'.size = n ∧ Arr (((w1.drewN q).setCell ⟨g, off + i, none⟩ (.int .u32 x)).setCell ⟨g, off + jj, none⟩ (.int .u32 y)) g off dk' ∧
          But1 g w (((w1.drewN q).setCell ⟨g, off + i, none⟩ (.int .u32 x)).setCell ⟨g, off + jj, none⟩ (.int .u32 y)) ∧ U64At (((w1.drewN q).setCell ⟨g, off + i, none⟩ (.int .u32 x)).setCell ⟨g, off + jj, none⟩ (.int .u32 y)) w.heap.size (xorNextN X) ∧ PermIn a b d dk' := by
        rintro k q x y jj hk rfl rfl rfl
        refine ⟨Go.Sort.swp dk i (a + k), by rw [Go.Sort.size_swp]; exact hsk, ?_, (HB1.out.drewN q).swp _ _ _ _, ?_, perm_swp HP.out (by omega) (by omega) (by omega) (by omega) (by omega)⟩
        · rw [HG.out, HG.out]
          exact (HA1.out.drewN q).swp _ _ (by omega) (by omega)
        · exact HX1.out.but (((But1.refl g w1).drewN q).swp _ _ _ _) hne
      have SW := Lib.hid SW
      clear HA1 HB1 HX1 HP HG
      by_cases hol : o < len
      · by_cases hal : i = a + o
        · have hal2 : (a : Int) + (o : Int) = (i : Int) := by omega
          have HAL := Lib.hid hal
          clear hal
          go_wp2_with fail
          go_region
          go_wp2
          go_roundw
          case rel =>
            obtain ⟨dk', s1, s2, s3, s4, s5⟩ := SW.out o 1 _ _ _ hol (congrArg G HAL.out) rfl HAL.out
            exact ⟨i + 1, xorNextN X, dk', by go_num, by omega, by omega, s1, s2, s3, s4, s5⟩
          case measure => simp [intOf]; omega
        · go_wp2_with fail
          go_region
          go_wp2
          go_roundw
          case rel =>
            obtain ⟨dk', s1, s2, s3, s4, s5⟩ := SW.out o 1 _ _ _ hol rfl rfl rfl
            exact ⟨i + 1, xorNextN X, dk', by go_num, by omega, by omega, s1, s2, s3, s4, s5⟩
          case measure => simp [intOf]; omega
      · obtain ⟨o', ho3⟩ : ∃ o' : Nat, (o : Int) - (len : Int) = (o' : Int) := ⟨o - len, by omega⟩
        have ho4 : o' < len := by omega
        by_cases hal : i = a + o'
        · have hal2 : (a : Int) + (o' : Int) = (i : Int) := by omega
          have HAL := Lib.hid hal
          clear hal
          go_wp2_with fail
          go_region
          go_wp2
          go_roundw
          case rel =>
            obtain ⟨dk', s1, s2, s3, s4, s5⟩ := SW.out o' 1 _ _ _ ho4 (congrArg G HAL.out) rfl HAL.out
            exact ⟨i + 1, xorNextN X, dk', by go_num, by omega, by omega, s1, s2, s3, s4, s5⟩
          case measure => simp [intOf]; omega
        · go_wp2_with fail
          go_region
          go_wp2
          go_roundw
          case rel =>
            obtain ⟨dk', s1, s2, s3, s4, s5⟩ := SW.out o' 1 _ _ _ ho4 rfl rfl rfl
            exact ⟨i + 1, xorNextN X, dk', by go_num, by omega, by omega, s1, s2, s3, s4, s5⟩
          case measure => simp [intOf]; omega
    · go_wp2
      go_end0
      exact ⟨rfl, dk, HP.out, HAK.out, HB.out⟩
end Go.Proofs.YtiabbkjmgaemaaaGreat
/- The library's sort: its two partitions. -/
namespace Go.Proofs.YtiabbkjmgaemaaaGreat
set_option linter.unusedVariables false
open Go.RowKit
open Go.Sort (PermIn)

/-- How far a partition has come: what lies ahead of i fits L, what lies behind j doesn't. -/
structure Pt (L : Int → Bool) (a b i j : Nat) (d dk : Array Int) : Prop where
  perm : PermIn a b d dk
  lo : ∀ t, a < t → t < i → L dk[t]! = true
  hi : ∀ t, j < t → t < b → L dk[t]! = false
  ai : a < i
  ij : i ≤ j + 1
  jb : j < b
  size : b ≤ dk.size
namespace Pt
variable {L : Int → Bool} {a b i j : Nat} {d dk : Array Int}
theorem up (h : Pt L a b i j d dk) (hij : i ≤ j) (hl : L dk[i]! = true) : Pt L a b (i + 1) j d dk :=
  ⟨h.perm, fun t h1 h2 => by
    by_cases e : t = i
    · subst e; exact hl
    · exact h.lo t h1 (by omega), h.hi, by have := h.ai; omega, by omega, h.jb, h.size⟩
theorem down (h : Pt L a b i j d dk) (hij : i ≤ j) (hl : L dk[j]! = false) : Pt L a b i (j - 1) d dk := by
  have := h.ai
  refine ⟨h.perm, h.lo, fun t h1 h2 => ?_, h.ai, by omega, by have := h.jb; omega, h.size⟩
  by_cases e : t = j
  · subst e; exact hl
  · exact h.hi t (by omega) h2
theorem swp (h : Pt L a b i j d dk) (hij : i < j) (hi : L dk[i]! = false) (hj : L dk[j]! = true) : Pt L a b (i + 1) (j - 1) d (Go.Sort.swp dk i j) ∧ (Go.Sort.swp dk i j)[a]! = dk[a]! := by
  have h1 := h.ai
  have h2 := h.jb
  have h3 := h.size
  refine ⟨⟨perm_swp h.perm (by omega) (by omega) (by omega) (by omega) h.size, fun t t1 t2 => ?_, fun t t1 t2 => ?_, by omega, by omega, by omega, by rw [Go.Sort.size_swp]; exact h3⟩, ?_⟩
  · rw [Go.Sort.swp_get dk (by omega) (by omega), if_neg (by omega)]
    by_cases e : t = i
    · rw [if_pos e]; exact hj
    · rw [if_neg e]; exact h.lo t t1 (by omega)
  · rw [Go.Sort.swp_get dk (by omega) (by omega)]
    by_cases e : t = j
    · rw [if_pos e]; exact hi
    · rw [if_neg e, if_neg (by omega)]; exact h.hi t (by omega) t2
  · rw [Go.Sort.swp_get dk (by omega) (by omega), if_neg (by omega), if_neg (by omega)]
end Pt
theorem Arr.fam1 {w : World} {g off n : Nat} {d : Array Int} (h : Arr w g off d) (hn : d.size = n) (i : Nat) (hi : i < n) (x : Int) : ∃ G : Nat → Int, ∀ t, t < n → (w.setCell ⟨g, off + i, none⟩ (.int .u32 x)).cell? ⟨g, off + t, none⟩ = some (.int .u32 (G t)) :=
  ⟨fun t => (d.setIfInBounds i x)[t]!, fun t ht => (h.set i x (by omega)).cell (by simpa using by omega)⟩
/-- What partitionOrdered leaves. -/
def PartPost (a b : Nat) (d d' : Array Int) (mid : Nat) : Prop :=
  a ≤ mid ∧ mid < b ∧ PermIn a b d d' ∧ (∀ t, a ≤ t → t < mid → d'[t]! < d'[mid]!) ∧ (∀ t, mid < t → t < b → d'[mid]! ≤ d'[t]!)
theorem part_done {a b i j : Nat} {d dk : Array Int} {p : Int} (h : Pt (fun x => ltI x p) a b i j d dk) (hp : dk[a]! = p) (hij : j < i) : PartPost a b d (Go.Sort.swp dk j a) j := by
  have h1 := h.ai
  have h2 := h.jb
  have h3 := h.size
  have h4 := h.ij
  have em : (Go.Sort.swp dk j a)[j]! = p := by
    rw [Go.Sort.swp_get dk (by omega) (by omega)]
    by_cases e : j = a
    · rw [if_pos e, e]; exact hp
    · rw [if_neg e, if_pos rfl]; exact hp
  refine ⟨by omega, h2, perm_swp h.perm (by omega) (by omega) (by omega) (by omega) h.size, fun t t1 t2 => ?_, fun t t1 t2 => ?_⟩
  · rw [em, Go.Sort.swp_get dk (by omega) (by omega)]
    have hl : ∀ s, a < s → s < i → dk[s]! < p := fun s s1 s2 => by
      have := h.lo s s1 s2
      simpa [Go.Sort.ltInt] using this
    by_cases e : t = a
    · rw [if_pos e]; exact hl j (by omega) (by omega)
    · rw [if_neg e, if_neg (by omega)]; exact hl t (by omega) (by omega)
  · rw [em, Go.Sort.swp_get dk (by omega) (by omega), if_neg (by omega), if_neg (by omega)]
    have := h.hi t t1 t2
    simpa [Go.Sort.ltInt] using this
/-- What partitionEqualOrdered leaves. -/
def EqPost (a b : Nat) (d d' : Array Int) (p : Int) (mid : Nat) : Prop :=
  a < mid ∧ mid ≤ b ∧ PermIn a b d d' ∧ (∀ t, a ≤ t → t < mid → d'[t]! ≤ p) ∧ (∀ t, mid ≤ t → t < b → p < d'[t]!)
theorem eq_done {a b i j : Nat} {d dk : Array Int} {p : Int} (h : Pt (fun x => !ltI p x) a b i j d dk) (hp : dk[a]! = p) (hij : j < i) : EqPost a b d dk p i := by
  have h1 := h.ai
  have h2 := h.jb
  have h4 := h.ij
  refine ⟨h1, by omega, h.perm, fun t t1 t2 => ?_, fun t t1 t2 => ?_⟩
  · by_cases e : t = a
    · subst e; omega
    · have := h.lo t (by omega) t2
      simpa [Go.Sort.ltInt] using this
  · have := h.hi t (by omega) t2
    simpa [Go.Sort.ltInt] using this
theorem pt_start {L : Int → Bool} {a b pivot : Nat} {d : Array Int} (ha : a ≤ pivot) (hb : pivot < b) (hs : b ≤ d.size) : Pt L a b (a + 1) (b - 1) d (Go.Sort.swp d a pivot) ∧ (Go.Sort.swp d a pivot)[a]! = d[pivot]! := by
  refine ⟨⟨Go.Sort.swp_permIn d a b a pivot (Nat.le_refl _) (by omega) ha hb hs, fun t h1 h2 => by omega, fun t h1 h2 => by omega, by omega, by omega, by omega, by rw [Go.Sort.size_swp]; exact hs⟩, ?_⟩
  rw [Go.Sort.swp_get d (by omega) (by omega)]
  by_cases e : a = pivot
  · rw [if_pos e, e]
  · rw [if_neg e, if_pos rfl]


set_option maxRecDepth 100000 in
set_option maxHeartbeats 8000000 in
theorem sPart (g off cap a b pivot n : Nat) (d : Array Int) (w : World) (h : Arr w g off d) (hn : d.size = n) (hap : a ≤ pivot) (hpb : pivot < b) (hb : b ≤ n) (hsz : n < 1152921504606846976) :
    Calls Tryz.prog 146 #[.slice (some ⟨g, off, none⟩) n cap, .int .i64 a, .int .i64 b, .int .i64 pivot] w fun e w' =>
      ∃ (mid : Nat) (ap : Bool) (d' : Array Int), e = .returned (.tuple #[.int .i64 mid, .bool ap]) ∧ PartPost a b d d' mid ∧ Arr w' g off d' ∧ But1 g w w' := by
  obtain ⟨p, hpp⟩ : ∃ p, p = d[pivot]! := ⟨_, rfl⟩
  obtain ⟨L, hL⟩ : ∃ L : Int → Bool, L = fun x => ltI x p := ⟨_, rfl⟩
  have HL : Hid (∀ x, L x = ltI x p) := Lib.hid (fun x => by rw [hL])
  obtain ⟨G, hG, hcw, hfw⟩ := h.fam hn
  obtain ⟨G1, hcs⟩ := h.fam1 hn a (by omega) (G pivot)
  have HG := Lib.hid hG
  have HA0 := Lib.hid h
  obtain ⟨st1, st2⟩ := pt_start (L := L) hap hpb (show b ≤ d.size by omega)
  rw [← hpp] at st2
  have ST1 := Lib.hid st1
  have HLL := Lib.hid hL
  have HPP := Lib.hid hpp
  have ST2 := Lib.hid st2
  clear hG h hpp hL st1 st2
  go_enter Tryz.func146, Tryz.ntmps146
  go_wp2_with fail
  go_region
  go_wp2_with fail
  have hA1 : Arr ((w.setCell ⟨g, off + a, none⟩ (.int .u32 (G pivot))).setCell ⟨g, off + pivot, none⟩ (.int .u32 (G a))) g off (Go.Sort.swp d a pivot) := by
    rw [HG.out, HG.out]
    exact HA0.out.swp _ _ (by omega) (by omega)
  have hB1 : But1 g w ((w.setCell ⟨g, off + a, none⟩ (.int .u32 (G pivot))).setCell ⟨g, off + pivot, none⟩ (.int .u32 (G a))) := (But1.refl g w).swp _ _ _ _
  have HA := Lib.hid (hA1.drewN 1)
  have HB := Lib.hid (hB1.drewN 1)
  have hsk : (Go.Sort.swp d a pivot).size = n := by rw [Go.Sort.size_swp]; exact hn
  clear hA1 hB1 hcw hfw hcs HG HA0
  generalize Go.Sort.swp d a pivot = dk at HA hsk ST1 ST2
  have HP := Lib.hid ST2.out
  have HPT := Lib.hid ST1.out
  clear ST1 ST2
  obtain ⟨i, hi0⟩ : ∃ i, i = a + 1 := ⟨_, rfl⟩
  obtain ⟨j, hj0⟩ : ∃ j, j = b - 1 := ⟨_, rfl⟩
  rw [← hi0, ← hj0] at HPT
  have e1 : (b : Int) - 1 = (j : Int) := by omega
  have e2 : (a : Int) + 1 = (i : Int) := by omega
  rw [e1, e2]
  clear e1 e2 hi0 hj0
  go_loopw [10] (fun v wr => ∃ i' : Nat, v = .int .i64 (i' : Int) ∧ i ≤ i' ∧ Arr wr g off dk ∧ But1 g w wr ∧ Pt L a b i' j d dk) (fun v _ => j + 1 - (intOf v).toNat)
  case atStart => exact ⟨i, by go_num, Nat.le_refl _, HA.out, HB.out, HPT.out⟩
  case round =>
    obtain ⟨i, rfl, hmono, hA, hB, hPT⟩ := hrel
    clear HA HB HPT
    obtain ⟨G, hG, hcw, hfw⟩ := hA.fam hsk
    have HG := Lib.hid hG
    have HPT := Lib.hid hPT
    have HA := Lib.hid hA
    have HB := Lib.hid hB
    have b1 := hPT.ai
    have b2 := hPT.ij
    have b3 := hPT.jb
    clear hG hPT hA hB
    go_upto_region 3 with fail
    go_cut [43] from 30 to 45 (fun s wx => s = .bool (decide (i ≤ j) && L (G i)) ∧ Arr wx g off dk ∧ But1 g w wx)
    case first =>
      by_cases hij : i ≤ j
      · have hijz : (i : Int) ≤ (j : Int) := by omega
        go_big_quiet (first | (go_at_call 144; refine Calls.quiet_of_same (sLess _ _ _)))
        go_wp2_with fail
        go_meet
        case rel => exact ⟨by rw [HL.out, ← HP.out, ← HG.out]; simp [hij], HA.out.drewN _, HB.out.drewN _⟩
      · have hijz : decide ((i : Int) ≤ (j : Int)) = false := decide_eq_false (by omega)
        go_big_quiet (first | (go_at_call 144; refine Calls.quiet_of_same (sLess _ _ _)))
        go_wp2_with fail
        go_meet
        case rel => exact ⟨by simp [hij], HA.out.drewN _, HB.out.drewN _⟩
    case rest =>
      obtain ⟨rfl, hA, hB⟩ := hcut
      clear HA HB hcw hfw
      have HA := Lib.hid hA
      have HB := Lib.hid hB
      clear hA hB
      cases hc : (decide (i ≤ j) && L (G i))
      · have hno : i ≤ j → L dk[i]! = false := fun hij => by
          rw [HG.out] at hc
          simpa [hij] using hc
        have HNO := Lib.hid hno
        clear hno hc HG
        go_wp2_with fail
        have hU : L dk[i]! = true → j < i := fun e => by
          rcases Nat.lt_or_ge j i with h1 | h1
          · exact h1
          · rw [HNO.out h1] at e; cases e
        have HU := Lib.hid hU
        clear hU HNO
        go_loopw [11] (fun v wr => ∃ j' : Nat, v = .int .i64 (j' : Int) ∧ j' ≤ j ∧ Arr wr g off dk ∧ But1 g w wr ∧ Pt L a b i j' d dk ∧ (L dk[i]! = true → j' < i)) (fun v _ => (intOf v).toNat + 1 - i)
        case atStart => exact ⟨j, by go_num, Nat.le_refl _, HA.out, HB.out, HPT.out, HU.out⟩
        case round =>
          obtain ⟨j, rfl, hmono, hA, hB, hPT, hU⟩ := hrel
          clear HA HB HPT HU
          obtain ⟨G, hG, hcw, hfw⟩ := hA.fam hsk
          have HG := Lib.hid hG
          have HPT := Lib.hid hPT
          have HA := Lib.hid hA
          have HB := Lib.hid hB
          have b1 := hPT.ai
          have b2 := hPT.ij
          have b3 := hPT.jb
          have HU := Lib.hid hU
          clear hU
          clear hG hPT hA hB
          go_upto_region 5 with fail
          go_cut [60] from 46 to 62 (fun s wx => s = .bool (decide (i ≤ j) && !L (G j)) ∧ Arr wx g off dk ∧ But1 g w wx)
          case first =>
            by_cases hij : i ≤ j
            · have hijz : (i : Int) ≤ (j : Int) := by omega
              go_big_quiet (first | (go_at_call 144; refine Calls.quiet_of_same (sLess _ _ _)))
              go_wp2_with fail
              go_meet
              case rel => exact ⟨by rw [HL.out, ← HP.out, ← HG.out]; simp [hij], HA.out.drewN _, HB.out.drewN _⟩
            · have hijz : decide ((i : Int) ≤ (j : Int)) = false := decide_eq_false (by omega)
              go_big_quiet (first | (go_at_call 144; refine Calls.quiet_of_same (sLess _ _ _)))
              go_wp2_with fail
              go_meet
              case rel => exact ⟨by simp [hij], HA.out.drewN _, HB.out.drewN _⟩
          case rest =>
            obtain ⟨rfl, hA, hB⟩ := hcut
            clear HA HB hcw hfw
            have HA := Lib.hid hA
            have HB := Lib.hid hB
            clear hA hB
            cases hc : (decide (i ≤ j) && !L (G j))
            · have hno : i ≤ j → L dk[j]! = true := fun hij => by
                rw [HG.out] at hc
                simpa [hij] using hc
              have HNO := Lib.hid hno
              clear hno hc HG
              go_wp2_with fail
              · have hji : j < i := by assumption
                rw [HLL.out] at HPT
                obtain ⟨G, hG, hcw, hfw⟩ := HA.out.fam hsk
                have HG := Lib.hid hG
                obtain ⟨G1, hcs⟩ := HA.out.fam1 hsk j (by omega) (G a)
                clear hG
                go_region
                go_wp2_with fail
                go_ret2
                exact ⟨j, true, Go.Sort.swp dk j a, rfl, part_done HPT.out HP.out (by omega), by rw [HG.out, HG.out]; exact (HA.out.drewN 1).swp _ _ (by omega) (by omega), (HB.out.drewN 1).swp _ _ _ _⟩
              · have hji : ¬ j < i := by assumption
                have hle2 : i ≤ j := by omega
                have hj1 : L dk[j]! = true := HNO.out hle2
                have hi1 : L dk[i]! = false := by
                  cases e : L dk[i]!
                  · rfl
                  · have := HU.out e; omega
                have hlt : i < j := by
                  rcases Nat.lt_or_eq_of_le hle2 with e | e
                  · exact e
                  · rw [e, hj1] at hi1; cases hi1
                have hne : i ≠ j := by omega
                have HJ1 := Lib.hid hj1
                have HI1 := Lib.hid hi1
                clear hj1 hi1
                obtain ⟨G, hG, hcw, hfw⟩ := HA.out.fam hsk
                have HG := Lib.hid hG
                clear hG
                go_region
                go_wp2_with fail

                have hs := HPT.out.swp hlt HI1.out HJ1.out
                have HPT2 := Lib.hid hs.1
                have HP2 := Lib.hid (hs.2.trans HP.out)
                have hA2 : Arr (((wc.setCell ⟨g, off + i, none⟩ (.int .u32 (G j))).setCell ⟨g, off + j, none⟩ (.int .u32 (G i))).drewN 1) g off (Go.Sort.swp dk i j) := by
                  rw [HG.out, HG.out]
                  exact ((HA.out).swp _ _ (by omega) (by omega)).drewN 1
                have HA2 := Lib.hid hA2
                have HB2 := Lib.hid ((HB.out.swp (off + i) (off + j) (.int .u32 (G j)) (.int .u32 (G i))).drewN 1)
                have hsk2 : (Go.Sort.swp dk i j).size = n := by rw [Go.Sort.size_swp]; exact hsk
                clear hs hA2 hcw hfw HA HB HPT HP HU HNO HG
                go_loopw [10, 11] (fun v1 v2 wr => ∃ (i j : Nat) (dk : Array Int), v1 = .int .i64 (i : Int) ∧ v2 = .int .i64 (j : Int) ∧ dk.size = n ∧ Arr wr g off dk ∧ But1 g w wr ∧ Pt L a b i j d dk ∧ dk[a]! = p) (fun v1 v2 _ => (intOf v2).toNat + 1 - (intOf v1).toNat)
                case atStart => exact ⟨i + 1, j - 1, Go.Sort.swp dk i j, by go_num, by congr 1; omega, hsk2, HA2.out, HB2.out, HPT2.out, HP2.out⟩
                case round =>
                  obtain ⟨i, j, dk, rfl, rfl, hsk, hA, hB, hPT, hP⟩ := hrel
                  clear HA2 HB2 HPT2 HP2 hsk2
                  have HA := Lib.hid hA
                  have HB := Lib.hid hB
                  have HPT := Lib.hid hPT
                  have HP := Lib.hid hP
                  clear hA hB hPT hP
                  go_wp2_with fail
                  go_loopw [10] (fun v wr => ∃ i' : Nat, v = .int .i64 (i' : Int) ∧ i ≤ i' ∧ Arr wr g off dk ∧ But1 g w wr ∧ Pt L a b i' j d dk) (fun v _ => j + 1 - (intOf v).toNat)
                  case atStart => exact ⟨i, by go_num, Nat.le_refl _, HA.out, HB.out, HPT.out⟩
                  case round =>
                    obtain ⟨i, rfl, hmono, hA, hB, hPT⟩ := hrel
                    clear HA HB HPT
                    obtain ⟨G, hG, hcw, hfw⟩ := hA.fam hsk
                    have HG := Lib.hid hG
                    have HPT := Lib.hid hPT
                    have HA := Lib.hid hA
                    have HB := Lib.hid hB
                    have b1 := hPT.ai
                    have b2 := hPT.ij
                    have b3 := hPT.jb
                    clear hG hPT hA hB
                    go_upto_region 13 with fail
                    go_cut [112] from 99 to 114 (fun s wx => s = .bool (decide (i ≤ j) && L (G i)) ∧ Arr wx g off dk ∧ But1 g w wx)
                    case first =>
                      by_cases hij : i ≤ j
                      · have hijz : (i : Int) ≤ (j : Int) := by omega
                        go_big_quiet (first | (go_at_call 144; refine Calls.quiet_of_same (sLess _ _ _)))
                        go_wp2_with fail
                        go_meet
                        case rel => exact ⟨by rw [HL.out, ← HP.out, ← HG.out]; simp [hij], HA.out.drewN _, HB.out.drewN _⟩
                      · have hijz : decide ((i : Int) ≤ (j : Int)) = false := decide_eq_false (by omega)
                        go_big_quiet (first | (go_at_call 144; refine Calls.quiet_of_same (sLess _ _ _)))
                        go_wp2_with fail
                        go_meet
                        case rel => exact ⟨by simp [hij], HA.out.drewN _, HB.out.drewN _⟩
                    case rest =>
                      obtain ⟨rfl, hA, hB⟩ := hcut
                      clear HA HB hcw hfw
                      have HA := Lib.hid hA
                      have HB := Lib.hid hB
                      clear hA hB
                      cases hc : (decide (i ≤ j) && L (G i))
                      · have hno : i ≤ j → L dk[i]! = false := fun hij => by
                          rw [HG.out] at hc
                          simpa [hij] using hc
                        have HNO := Lib.hid hno
                        clear hno hc HG
                        go_wp2_with fail
                        have hU : L dk[i]! = true → j < i := fun e => by
                          rcases Nat.lt_or_ge j i with h1 | h1
                          · exact h1
                          · rw [HNO.out h1] at e; cases e
                        have HU := Lib.hid hU
                        clear hU HNO
                        go_loopw [11] (fun v wr => ∃ j' : Nat, v = .int .i64 (j' : Int) ∧ j' ≤ j ∧ Arr wr g off dk ∧ But1 g w wr ∧ Pt L a b i j' d dk ∧ (L dk[i]! = true → j' < i)) (fun v _ => (intOf v).toNat + 1 - i)
                        case atStart => exact ⟨j, by go_num, Nat.le_refl _, HA.out, HB.out, HPT.out, HU.out⟩
                        case round =>
                          obtain ⟨j, rfl, hmono, hA, hB, hPT, hU⟩ := hrel
                          clear HA HB HPT HU
                          obtain ⟨G, hG, hcw, hfw⟩ := hA.fam hsk
                          have HG := Lib.hid hG
                          have HPT := Lib.hid hPT
                          have HA := Lib.hid hA
                          have HB := Lib.hid hB
                          have b1 := hPT.ai
                          have b2 := hPT.ij
                          have b3 := hPT.jb
                          have HU := Lib.hid hU
                          clear hU
                          clear hG hPT hA hB
                          go_upto_region 15 with fail
                          go_cut [129] from 115 to 131 (fun s wx => s = .bool (decide (i ≤ j) && !L (G j)) ∧ Arr wx g off dk ∧ But1 g w wx)
                          case first =>
                            by_cases hij : i ≤ j
                            · have hijz : (i : Int) ≤ (j : Int) := by omega
                              go_big_quiet (first | (go_at_call 144; refine Calls.quiet_of_same (sLess _ _ _)))
                              go_wp2_with fail
                              go_meet
                              case rel => exact ⟨by rw [HL.out, ← HP.out, ← HG.out]; simp [hij], HA.out.drewN _, HB.out.drewN _⟩
                            · have hijz : decide ((i : Int) ≤ (j : Int)) = false := decide_eq_false (by omega)
                              go_big_quiet (first | (go_at_call 144; refine Calls.quiet_of_same (sLess _ _ _)))
                              go_wp2_with fail
                              go_meet
                              case rel => exact ⟨by simp [hij], HA.out.drewN _, HB.out.drewN _⟩
                          case rest =>
                            obtain ⟨rfl, hA, hB⟩ := hcut
                            clear HA HB hcw hfw
                            have HA := Lib.hid hA
                            have HB := Lib.hid hB
                            clear hA hB
                            cases hc : (decide (i ≤ j) && !L (G j))
                            · have hno : i ≤ j → L dk[j]! = true := fun hij => by
                                rw [HG.out] at hc
                                simpa [hij] using hc
                              have HNO := Lib.hid hno
                              clear hno hc HG
                              go_wp2_with fail
                              · have hji : j < i := by assumption
                                rw [HLL.out] at HPT
                                obtain ⟨G, hG, hcw, hfw⟩ := HA.out.fam hsk
                                have HG := Lib.hid hG
                                obtain ⟨G1, hcs⟩ := HA.out.fam1 hsk j (by omega) (G a)
                                clear hG
                                go_region
                                go_wp2_with fail
                                go_ret2
                                exact ⟨j, false, Go.Sort.swp dk j a, rfl, part_done HPT.out HP.out (by omega), by rw [HG.out, HG.out]; exact (HA.out.drewN 1).swp _ _ (by omega) (by omega), (HB.out.drewN 1).swp _ _ _ _⟩
                              · have hji : ¬ j < i := by assumption
                                have hle2 : i ≤ j := by omega
                                have hj1 : L dk[j]! = true := HNO.out hle2
                                have hi1 : L dk[i]! = false := by
                                  cases e : L dk[i]!
                                  · rfl
                                  · have := HU.out e; omega
                                have hlt : i < j := by
                                  rcases Nat.lt_or_eq_of_le hle2 with e | e
                                  · exact e
                                  · rw [e, hj1] at hi1; cases hi1
                                have hne : i ≠ j := by omega
                                have HJ1 := Lib.hid hj1
                                have HI1 := Lib.hid hi1
                                clear hj1 hi1
                                obtain ⟨G, hG, hcw, hfw⟩ := HA.out.fam hsk
                                have HG := Lib.hid hG
                                clear hG
                                go_region
                                go_wp2_with fail

                                have hs := HPT.out.swp hlt HI1.out HJ1.out
                                have HPT2 := Lib.hid hs.1
                                have HP2 := Lib.hid (hs.2.trans HP.out)
                                have hA2 : Arr (((wc.setCell ⟨g, off + i, none⟩ (.int .u32 (G j))).setCell ⟨g, off + j, none⟩ (.int .u32 (G i))).drewN 1) g off (Go.Sort.swp dk i j) := by
                                  rw [HG.out, HG.out]
                                  exact ((HA.out).swp _ _ (by omega) (by omega)).drewN 1
                                have HA2 := Lib.hid hA2
                                have HB2 := Lib.hid ((HB.out.swp (off + i) (off + j) (.int .u32 (G j)) (.int .u32 (G i))).drewN 1)
                                have hsk2 : (Go.Sort.swp dk i j).size = n := by rw [Go.Sort.size_swp]; exact hsk

                                go_roundw
                                case rel => exact ⟨i + 1, j - 1, Go.Sort.swp dk i j, by go_num, by congr 1; omega, hsk2, HA2.out, HB2.out, HPT2.out, HP2.out⟩
                                case measure => simp [intOf]; omega
                            · have hyes : i ≤ j ∧ L dk[j]! = false := by
                                rw [HG.out] at hc
                                simpa using hc
                              have HY := Lib.hid hyes
                              have hle := hyes.1
                              clear hyes hc
                              go_wp2_with fail
                              go_roundw
                              case rel => exact ⟨j - 1, by (congr 1; omega), by omega, HA.out, HB.out, HPT.out.down HY.out.1 HY.out.2, fun e => by have := HU.out e; omega⟩
                              case measure => simp [intOf]; omega
                      · have hyes : i ≤ j ∧ L dk[i]! = true := by
                          rw [HG.out] at hc
                          simpa using hc
                        have HY := Lib.hid hyes
                        have hle := hyes.1
                        clear hyes hc
                        go_wp2_with fail
                        go_roundw
                        case rel => exact ⟨i + 1, by go_num, by omega, HA.out, HB.out, HPT.out.up HY.out.1 HY.out.2⟩
                        case measure => simp [intOf]; omega
              
            · have hyes : i ≤ j ∧ L dk[j]! = false := by
                rw [HG.out] at hc
                simpa using hc
              have HY := Lib.hid hyes
              have hle := hyes.1
              clear hyes hc
              go_wp2_with fail
              go_roundw
              case rel => exact ⟨j - 1, by (congr 1; omega), by omega, HA.out, HB.out, HPT.out.down HY.out.1 HY.out.2, fun e => by have := HU.out e; omega⟩
              case measure => simp [intOf]; omega
      · have hyes : i ≤ j ∧ L dk[i]! = true := by
          rw [HG.out] at hc
          simpa using hc
        have HY := Lib.hid hyes
        have hle := hyes.1
        clear hyes hc
        go_wp2_with fail
        go_roundw
        case rel => exact ⟨i + 1, by go_num, by omega, HA.out, HB.out, HPT.out.up HY.out.1 HY.out.2⟩
        case measure => simp [intOf]; omega

set_option maxRecDepth 100000 in
set_option maxHeartbeats 8000000 in
theorem sEq (g off cap a b pivot n : Nat) (d : Array Int) (w : World) (h : Arr w g off d) (hn : d.size = n) (hap : a ≤ pivot) (hpb : pivot < b) (hb : b ≤ n) (hsz : n < 1152921504606846976) :
    Calls Tryz.prog 145 #[.slice (some ⟨g, off, none⟩) n cap, .int .i64 a, .int .i64 b, .int .i64 pivot] w fun e w' =>
      ∃ (mid : Nat) (d' : Array Int), e = .returned (.int .i64 mid) ∧ EqPost a b d d' d[pivot]! mid ∧ Arr w' g off d' ∧ But1 g w w' := by
  obtain ⟨p, hpp⟩ : ∃ p, p = d[pivot]! := ⟨_, rfl⟩
  obtain ⟨L, hL⟩ : ∃ L : Int → Bool, L = fun x => !ltI p x := ⟨_, rfl⟩
  have HL : Hid (∀ x, L x = !ltI p x) := Lib.hid (fun x => by rw [hL])
  obtain ⟨G, hG, hcw, hfw⟩ := h.fam hn
  obtain ⟨G1, hcs⟩ := h.fam1 hn a (by omega) (G pivot)
  have HG := Lib.hid hG
  have HA0 := Lib.hid h
  obtain ⟨st1, st2⟩ := pt_start (L := L) hap hpb (show b ≤ d.size by omega)
  rw [← hpp] at st2
  have ST1 := Lib.hid st1
  have HLL := Lib.hid hL
  have HPP := Lib.hid hpp
  have ST2 := Lib.hid st2
  clear hG h hpp hL st1 st2
  go_enter Tryz.func145, Tryz.ntmps145
  go_wp2_with fail
  go_region
  go_wp2_with fail
  have hA1 : Arr ((w.setCell ⟨g, off + a, none⟩ (.int .u32 (G pivot))).setCell ⟨g, off + pivot, none⟩ (.int .u32 (G a))) g off (Go.Sort.swp d a pivot) := by
    rw [HG.out, HG.out]
    exact HA0.out.swp _ _ (by omega) (by omega)
  have hB1 : But1 g w ((w.setCell ⟨g, off + a, none⟩ (.int .u32 (G pivot))).setCell ⟨g, off + pivot, none⟩ (.int .u32 (G a))) := (But1.refl g w).swp _ _ _ _
  have HA := Lib.hid (hA1.drewN 1)
  have HB := Lib.hid (hB1.drewN 1)
  have hsk : (Go.Sort.swp d a pivot).size = n := by rw [Go.Sort.size_swp]; exact hn
  clear hA1 hB1 hcw hfw hcs HG HA0
  generalize Go.Sort.swp d a pivot = dk at HA hsk ST1 ST2
  have HP := Lib.hid ST2.out
  have HPT := Lib.hid ST1.out
  clear ST1 ST2
  obtain ⟨i, hi0⟩ : ∃ i, i = a + 1 := ⟨_, rfl⟩
  obtain ⟨j, hj0⟩ : ∃ j, j = b - 1 := ⟨_, rfl⟩
  rw [← hi0, ← hj0] at HPT
  have e1 : (b : Int) - 1 = (j : Int) := by omega
  have e2 : (a : Int) + 1 = (i : Int) := by omega
  rw [e1, e2]
  clear e1 e2 hi0 hj0
  go_loopw [9, 10] (fun v1 v2 wr => ∃ (i j : Nat) (dk : Array Int), v1 = .int .i64 (i : Int) ∧ v2 = .int .i64 (j : Int) ∧ dk.size = n ∧ Arr wr g off dk ∧ But1 g w wr ∧ Pt L a b i j d dk ∧ dk[a]! = p) (fun v1 v2 _ => (intOf v2).toNat + 1 - (intOf v1).toNat)
  case atStart => exact ⟨i, j, dk, rfl, rfl, hsk, HA.out, HB.out, HPT.out, HP.out⟩
  case round =>
    obtain ⟨i, j, dk, rfl, rfl, hsk, hA, hB, hPT, hP⟩ := hrel
    clear HA HB HPT HP
    have HA := Lib.hid hA
    have HB := Lib.hid hB
    have HPT := Lib.hid hPT
    have HP := Lib.hid hP
    clear hA hB hPT hP
    go_wp2_with fail
    go_loopw [9] (fun v wr => ∃ i' : Nat, v = .int .i64 (i' : Int) ∧ i ≤ i' ∧ Arr wr g off dk ∧ But1 g w wr ∧ Pt L a b i' j d dk) (fun v _ => j + 1 - (intOf v).toNat)
    case atStart => exact ⟨i, by go_num, Nat.le_refl _, HA.out, HB.out, HPT.out⟩
    case round =>
      obtain ⟨i, rfl, hmono, hA, hB, hPT⟩ := hrel
      clear HA HB HPT
      obtain ⟨G, hG, hcw, hfw⟩ := hA.fam hsk
      have HG := Lib.hid hG
      have HPT := Lib.hid hPT
      have HA := Lib.hid hA
      have HB := Lib.hid hB
      have b1 := hPT.ai
      have b2 := hPT.ij
      have b3 := hPT.jb
      clear hG hPT hA hB
      go_upto_region 3 with fail
      go_cut [43] from 29 to 45 (fun s wx => s = .bool (decide (i ≤ j) && L (G i)) ∧ Arr wx g off dk ∧ But1 g w wx)
      case first =>
        by_cases hij : i ≤ j
        · have hijz : (i : Int) ≤ (j : Int) := by omega
          go_big_quiet (first | (go_at_call 144; refine Calls.quiet_of_same (sLess _ _ _)))
          go_wp2_with fail
          go_meet
          case rel => exact ⟨by rw [HL.out, ← HP.out, ← HG.out]; simp [hij], HA.out.drewN _, HB.out.drewN _⟩
        · have hijz : decide ((i : Int) ≤ (j : Int)) = false := decide_eq_false (by omega)
          go_big_quiet (first | (go_at_call 144; refine Calls.quiet_of_same (sLess _ _ _)))
          go_wp2_with fail
          go_meet
          case rel => exact ⟨by simp [hij], HA.out.drewN _, HB.out.drewN _⟩
      case rest =>
        obtain ⟨rfl, hA, hB⟩ := hcut
        clear HA HB hcw hfw
        have HA := Lib.hid hA
        have HB := Lib.hid hB
        clear hA hB
        cases hc : (decide (i ≤ j) && L (G i))
        · have hno : i ≤ j → L dk[i]! = false := fun hij => by
            rw [HG.out] at hc
            simpa [hij] using hc
          have HNO := Lib.hid hno
          clear hno hc HG
          go_wp2_with fail
          have hU : L dk[i]! = true → j < i := fun e => by
            rcases Nat.lt_or_ge j i with h1 | h1
            · exact h1
            · rw [HNO.out h1] at e; cases e
          have HU := Lib.hid hU
          clear hU HNO
          go_loopw [10] (fun v wr => ∃ j' : Nat, v = .int .i64 (j' : Int) ∧ j' ≤ j ∧ Arr wr g off dk ∧ But1 g w wr ∧ Pt L a b i j' d dk ∧ (L dk[i]! = true → j' < i)) (fun v _ => (intOf v).toNat + 1 - i)
          case atStart => exact ⟨j, by go_num, Nat.le_refl _, HA.out, HB.out, HPT.out, HU.out⟩
          case round =>
            obtain ⟨j, rfl, hmono, hA, hB, hPT, hU⟩ := hrel
            clear HA HB HPT HU
            obtain ⟨G, hG, hcw, hfw⟩ := hA.fam hsk
            have HG := Lib.hid hG
            have HPT := Lib.hid hPT
            have HA := Lib.hid hA
            have HB := Lib.hid hB
            have b1 := hPT.ai
            have b2 := hPT.ij
            have b3 := hPT.jb
            have HU := Lib.hid hU
            clear hU
            clear hG hPT hA hB
            go_upto_region 5 with fail
            go_cut [59] from 46 to 61 (fun s wx => s = .bool (decide (i ≤ j) && !L (G j)) ∧ Arr wx g off dk ∧ But1 g w wx)
            case first =>
              by_cases hij : i ≤ j
              · have hijz : (i : Int) ≤ (j : Int) := by omega
                go_big_quiet (first | (go_at_call 144; refine Calls.quiet_of_same (sLess _ _ _)))
                go_wp2_with fail
                go_meet
                case rel => exact ⟨by rw [HL.out, ← HP.out, ← HG.out]; simp [hij], HA.out.drewN _, HB.out.drewN _⟩
              · have hijz : decide ((i : Int) ≤ (j : Int)) = false := decide_eq_false (by omega)
                go_big_quiet (first | (go_at_call 144; refine Calls.quiet_of_same (sLess _ _ _)))
                go_wp2_with fail
                go_meet
                case rel => exact ⟨by simp [hij], HA.out.drewN _, HB.out.drewN _⟩
            case rest =>
              obtain ⟨rfl, hA, hB⟩ := hcut
              clear HA HB hcw hfw
              have HA := Lib.hid hA
              have HB := Lib.hid hB
              clear hA hB
              cases hc : (decide (i ≤ j) && !L (G j))
              · have hno : i ≤ j → L dk[j]! = true := fun hij => by
                  rw [HG.out] at hc
                  simpa [hij] using hc
                have HNO := Lib.hid hno
                clear hno hc HG
                go_wp2_with fail
                · have hji : j < i := by assumption
                  rw [HLL.out] at HPT
                  go_ret
                  exact ⟨i, dk, rfl, HPP.out ▸ eq_done HPT.out HP.out (by omega), HA.out, HB.out⟩
                · have hji : ¬ j < i := by assumption
                  have hle2 : i ≤ j := by omega
                  have hj1 : L dk[j]! = true := HNO.out hle2
                  have hi1 : L dk[i]! = false := by
                    cases e : L dk[i]!
                    · rfl
                    · have := HU.out e; omega
                  have hlt : i < j := by
                    rcases Nat.lt_or_eq_of_le hle2 with e | e
                    · exact e
                    · rw [e, hj1] at hi1; cases hi1
                  have hne : i ≠ j := by omega
                  have HJ1 := Lib.hid hj1
                  have HI1 := Lib.hid hi1
                  clear hj1 hi1
                  obtain ⟨G, hG, hcw, hfw⟩ := HA.out.fam hsk
                  have HG := Lib.hid hG
                  clear hG
                  go_region
                  go_wp2_with fail

                  have hs := HPT.out.swp hlt HI1.out HJ1.out
                  have HPT2 := Lib.hid hs.1
                  have HP2 := Lib.hid (hs.2.trans HP.out)
                  have hA2 : Arr (((wc.setCell ⟨g, off + i, none⟩ (.int .u32 (G j))).setCell ⟨g, off + j, none⟩ (.int .u32 (G i))).drewN 1) g off (Go.Sort.swp dk i j) := by
                    rw [HG.out, HG.out]
                    exact ((HA.out).swp _ _ (by omega) (by omega)).drewN 1
                  have HA2 := Lib.hid hA2
                  have HB2 := Lib.hid ((HB.out.swp (off + i) (off + j) (.int .u32 (G j)) (.int .u32 (G i))).drewN 1)
                  have hsk2 : (Go.Sort.swp dk i j).size = n := by rw [Go.Sort.size_swp]; exact hsk

                  go_roundw
                  case rel => exact ⟨i + 1, j - 1, Go.Sort.swp dk i j, by go_num, by congr 1; omega, hsk2, HA2.out, HB2.out, HPT2.out, HP2.out⟩
                  case measure => simp [intOf]; omega
              · have hyes : i ≤ j ∧ L dk[j]! = false := by
                  rw [HG.out] at hc
                  simpa using hc
                have HY := Lib.hid hyes
                have hle := hyes.1
                clear hyes hc
                go_wp2_with fail
                go_roundw
                case rel => exact ⟨j - 1, by (congr 1; omega), by omega, HA.out, HB.out, HPT.out.down HY.out.1 HY.out.2, fun e => by have := HU.out e; omega⟩
                case measure => simp [intOf]; omega
        · have hyes : i ≤ j ∧ L dk[i]! = true := by
            rw [HG.out] at hc
            simpa using hc
          have HY := Lib.hid hyes
          have hle := hyes.1
          clear hyes hc
          go_wp2_with fail
          go_roundw
          case rel => exact ⟨i + 1, by go_num, by omega, HA.out, HB.out, HPT.out.up HY.out.1 HY.out.2⟩
          case measure => simp [intOf]; omega
end Go.Proofs.YtiabbkjmgaemaaaGreat
