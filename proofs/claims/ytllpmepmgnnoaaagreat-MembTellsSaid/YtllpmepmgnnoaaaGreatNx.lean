/- The library's sort: the breaking of patterns. -/
import Derived.Test.YtllpmepmgnnoaaaGreatNw
import Derived.Test.YtllpmepmgnnoaaaGreatLaid
import Derived.Sort.LotD1
import Derived.Laws.BitsLemmas
namespace Go.Proofs.YtllpmepmgnnoaaaGreat
set_option linter.unusedVariables false
open Go.RowKit
open Go.Sort (PermIn bitsLen xorNextN)

theorem sNext (R X : Nat) (hX : X < 18446744073709551616) (w : World) (hc : w.cell? ⟨R, 0, none⟩ = some (.int .u64 X)) (hf : w.frozen? ⟨R, 0, none⟩ = false) :
    Calls Tryz.prog 98 #[.pointer (some ⟨R, 0, none⟩)] w fun e w' => e = .returned (.int .u64 (xorNextN X : Nat)) ∧ w' = (w.setCell ⟨R, 0, none⟩ (.int .u64 (xorNextN X : Nat))).drewN 3 :=
  AnyF.xorshift_Next Tryz.layX R 0 X hX w hc hf
theorem sPow (n : Nat) (hn : n < 4611686018427387904) (w : World) :
    Calls Tryz.prog 97 #[.int .i64 n] w fun e w' => e = .returned (.int .u64 ((1 <<< bitsLen n : Nat) : Int)) ∧ w' = w :=
  AnyF.nextPowerOfTwo Tryz.layP n hn w
theorem pow_two (len : Nat) (h : 0 < len) : ∃ M : Nat, 1 <<< bitsLen len = M + 1 ∧ M < 2 * len := by
  have h1 := Go.Sort.two_pow_bitsLen_le h
  have h2 : 0 < 2 ^ bitsLen len := Nat.pos_of_ne_zero (by simp)
  rw [Nat.one_shiftLeft]
  exact ⟨2 ^ bitsLen len - 1, by omega, by omega⟩
theorem sPow1 (len : Nat) (h : 0 < len) (hn : len < 4611686018427387904) : ∃ M : Nat, M < 2 * len ∧ ∀ w, Calls Tryz.prog 97 #[.int .i64 len] w fun e w' => e = .returned (.int .u64 ((M : Int) + 1)) ∧ w' = w := by
  obtain ⟨M, hM, hM2⟩ := pow_two len h
  refine ⟨M, hM2, fun w => ?_⟩
  have := sPow len hn w
  rw [hM] at this
  exact this
theorem and64 (x y : Nat) (hx : x < 18446744073709551616) (hy : y < 18446744073709551616) : ∃ o : Nat, bits .and .u64 (x : Int) (y : Int) = (o : Int) ∧ o ≤ y := by
  refine ⟨x &&& y, ?_, Nat.and_le_right⟩
  have hz : x &&& y ≤ y := Nat.and_le_right
  show IntKind.u64.wrap ((BitVec.ofInt 64 (x : Int) &&& BitVec.ofInt 64 (y : Int)).toNat : Int) = _
  rw [BitVec.ofInt_natCast, BitVec.ofInt_natCast, BitVec.toNat_and, BitVec.toNat_ofNat, BitVec.toNat_ofNat, Nat.mod_eq_of_lt (by omega), Nat.mod_eq_of_lt (by omega), IntKind.wrap_u64]
  omega
/-- A number of 64 bits in a variable of its own. -/
def U64At (w : World) (R X : Nat) : Prop := (w.cell? ⟨R, 0, none⟩ = some (.int .u64 X) ∧ w.frozen? ⟨R, 0, none⟩ = false) ∧ X < 18446744073709551616
theorem U64At.next {w : World} {R X : Nat} (h : U64At w R X) : U64At ((w.setCell ⟨R, 0, none⟩ (.int .u64 (xorNextN X : Nat))).drewN 3) R (xorNextN X) :=
  ⟨⟨World.cell?_setCell_same' _ _ _ (by rw [h.1.1]; rfl), (World.frozen?_setCell _ _ _ _).trans h.1.2⟩, Go.Sort.xorNextN_lt X h.2⟩
theorem U64At.but {w w' : World} {R X g : Nat} (h : U64At w R X) (hb : But1 g w w') (hne : R ≠ g) : U64At w' R X := by
  have hR : R < w.heap.size := cell_lt h.1.1
  exact ⟨⟨(hb.cell (p := ⟨R, 0, none⟩) hR hne).trans h.1.1, (World.frozen?_of_block (w := w) (hb.block R hR hne)).trans h.1.2⟩, h.2⟩
theorem But1.far {w w' : World} {g R j : Nat} (h : But1 g w w') (hR : w.heap.size ≤ R) (v : Value) (q : Nat) : But1 g w ((w'.setCell ⟨R, j, none⟩ v).drewN q) :=
  ⟨h.os, h.tape, h.output, by simp [World.setCell, World.drewN]; exact h.size, fun i hi hne => by
    show (w'.setCell ⟨R, j, none⟩ v).heap[i]? = _
    rw [Below.heap_setCell w' ⟨R, j, none⟩ v i (by show i ≠ R; omega)]
    exact h.block i hi hne⟩
end Go.Proofs.YtllpmepmgnnoaaaGreat
