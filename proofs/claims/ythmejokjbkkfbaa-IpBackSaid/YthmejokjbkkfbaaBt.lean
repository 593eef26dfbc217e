/- Bits of small numbers: no program in it. -/
import Derived.Laws.BitsLemmas
import Derived.Lib.EndianBits
namespace Go.Proofs.Ythmejokjbkkfbaa
set_option linter.unusedVariables false

theorem or_hl {x y : Int} (h1 : 0 ≤ x ∧ x ≤ 255) (h2 : 0 ≤ y ∧ y ≤ 255) : bits .or .u16 (x * 256) y = x * 256 + y :=
  bits_join .u16 16 (by decide) wraps_u16 8 (x * 256) y (by omega) (by omega) (by omega) (by omega) (by omega) (by omega)
/-- All bits turned round. -/
theorem not16 {s : Int} (h0 : 0 ≤ s) (h1 : s ≤ 65535) : bits .xor .u16 IntKind.u16.max s = 65535 - s := by
  obtain ⟨a, rfl⟩ := Int.eq_ofNat_of_zero_le h0
  have ha : a < 2 ^ 16 := by omega
  have e : (BitVec.ofInt 16 IntKind.u16.max : BitVec 16) = BitVec.allOnes 16 := by decide
  show IntKind.u16.wrap (((BitVec.ofInt 16 IntKind.u16.max : BitVec 16) ^^^ (BitVec.ofInt 16 (a : Int) : BitVec 16)).toNat : Int) = _
  rw [e, BitVec.ofInt_natCast]
  have e2 : (BitVec.allOnes 16 ^^^ BitVec.ofNat 16 a).toNat = 65535 - a := by
    rw [BitVec.allOnes_xor, BitVec.toNat_not, BitVec.toNat_ofNat, Nat.mod_eq_of_lt ha]
  show IntKind.u16.wrap ((BitVec.allOnes 16 ^^^ BitVec.ofNat 16 a).toNat : Int) = _
  rw [e2, wraps_u16 _ (by omega) (by omega)]
  omega
theorem xor8 {x y : Int} (h1 : 0 ≤ x ∧ x ≤ 255) (h2 : 0 ≤ y ∧ y ≤ 255) : bits .xor .u8 x y = ((x.toNat ^^^ y.toNat : Nat) : Int) ∧ x.toNat ^^^ y.toNat < 256 := by
  obtain ⟨a, rfl⟩ := Int.eq_ofNat_of_zero_le h1.1
  obtain ⟨b, rfl⟩ := Int.eq_ofNat_of_zero_le h2.1
  have ha : a < 2 ^ 8 := by omega
  have hb : b < 2 ^ 8 := by omega
  have hx : a ^^^ b < 2 ^ 8 := Nat.xor_lt_two_pow ha hb
  refine ⟨?_, hx⟩
  show IntKind.u8.wrap ((BitVec.ofInt 8 (a : Int) ^^^ BitVec.ofInt 8 (b : Int)).toNat : Int) = _
  rw [BitVec.ofInt_natCast, BitVec.ofInt_natCast, BitVec.toNat_xor, BitVec.toNat_ofNat, BitVec.toNat_ofNat, Nat.mod_eq_of_lt ha, Nat.mod_eq_of_lt hb, wraps_u8 _ (by omega) (by omega)]
  rfl
/-- A byte with some of its bits turned round is another one. -/
theorem xor8_other {x y : Int} (h1 : 0 ≤ x ∧ x ≤ 255) (h2 : 0 ≤ y ∧ y ≤ 255) (hy : y ≠ 0) : bits .xor .u8 x y ≠ x ∧ 0 ≤ bits .xor .u8 x y ∧ bits .xor .u8 x y ≤ 255 := by
  obtain ⟨e, hlt⟩ := xor8 h1 h2
  rw [e]
  refine ⟨?_, by omega, by omega⟩
  intro h
  obtain ⟨a, rfl⟩ := Int.eq_ofNat_of_zero_le h1.1
  obtain ⟨b, rfl⟩ := Int.eq_ofNat_of_zero_le h2.1
  have h' : a ^^^ b = a := by
    have : ((a ^^^ b : Nat) : Int) = (a : Int) := h
    omega
  have h3 : a ^^^ (a ^^^ b) = a ^^^ a := by rw [h']
  rw [← Nat.xor_assoc, Nat.xor_self, Nat.zero_xor] at h3
  apply hy
  rw [h3]; rfl
end Go.Proofs.Ythmejokjbkkfbaa
