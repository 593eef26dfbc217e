/- Plain mathematics of sums of bytes (RFC 1071): no program in it. -/
import Derived.Test.YtmcnanoamgkljaaQ0
import Derived.Test.YtmcnanoamgkljaaQ1
import Derived.Test.YtmcnanoamgkljaaQ2
import Derived.Lib.Bytealg
import Derived.Laws.BitsLemmas
import Derived.Lib.EndianBits
import Derived.Deep.OwnRows
import Derived.Laws.CopyOwn
import Derived.Laws.AppendOwnNone
import Derived.Maps.AppendAt
import Derived.Laws.BitsAllLaws
import Derived.RangeFuncNested
import Derived.RangeFuncBound
import Derived.RangeFuncCalls
import Derived.RangeFuncLeaves
import Derived.RangeFuncBox
import Derived.Shelf.Abstract
import Derived.Shelf.RegionOpen
import Derived.WalkKit
import Derived.OwnWalkIn
import Derived.TacticsInMore
import Derived.LoopNIn
import Derived.LoopIn
import Derived.Deep.RegionWith
import Derived.Deep.RegionHeld3
import Derived.Laws.OwnMore
import Derived.Test.YtmcnanoamgkljaaRows
import Derived.ProofKit
import Derived.OpenShut
import Derived.ShutString
import Derived.ChangeOld
import Derived.Below
import Derived.Deep.DeepHandedRow
import Derived.Deep.Fields
import Derived.SizedLaws
namespace Go.Proofs.Ytmcnanoamgkljaa
set_option linter.unusedVariables false

/-- Two words joined. -/
def jn (x y : Int) : Int := if 65536 ≤ x + y then x + y - 65535 else x + y
/-- What the joined words of a total come to. -/
def nrm (t : Int) : Int := if t = 0 then 0 else (t - 1) % 65535 + 1
/-- The total of the words of bytes. -/
def tot : List Int → Int
  | [] => 0
  | [a] => a * 256
  | a :: b :: r => a * 256 + b + tot r
/-- The sum of bytes. -/
def ofs (xs : List Int) : Int := 65535 - nrm (tot xs)
def IsB (xs : List Int) : Prop := ∀ k, k < xs.length → 0 ≤ xs.getD k 0 ∧ xs.getD k 0 ≤ 255
/-- The j-th word. -/
def wrd (xs : List Int) (j : Nat) : Int := xs.getD (2 * j) 0 * 256 + xs.getD (2 * j + 1) 0
def wt (k : Nat) : Int := if k % 2 = 0 then 256 else 1

theorem getD_bd {xs : List Int} (h : IsB xs) (k : Nat) : 0 ≤ xs.getD k 0 ∧ xs.getD k 0 ≤ 255 := by
  by_cases hk : k < xs.length
  · exact h k hk
  · rw [List.getD_eq_getElem?_getD, List.getElem?_eq_none (by omega)]
    simp
theorem wrd_bd {xs : List Int} (h : IsB xs) (j : Nat) : 0 ≤ wrd xs j ∧ wrd xs j ≤ 65535 := by
  have h1 := getD_bd h (2 * j)
  have h2 := getD_bd h (2 * j + 1)
  unfold wrd
  omega
theorem jn_bd {x y : Int} (h1 : 0 ≤ x ∧ x ≤ 65535) (h2 : 0 ≤ y ∧ y ≤ 65535) : 0 ≤ jn x y ∧ jn x y ≤ 65535 := by
  unfold jn; split <;> omega
theorem nrm_bd {t : Int} (h : 0 ≤ t) : 0 ≤ nrm t ∧ nrm t ≤ 65535 := by
  unfold nrm; split <;> omega
theorem nrm_id {t : Int} (h : 0 ≤ t) (h' : t ≤ 65535) : nrm t = t := by
  unfold nrm; split <;> omega
theorem nrm_mk (q : Int) {r : Int} (hq : 0 ≤ q) (h0 : 1 ≤ r) (h1 : r ≤ 65535) : nrm (65535 * q + r) = r := by
  unfold nrm
  rw [if_neg (by omega), show 65535 * q + r - 1 = r - 1 + 65535 * q by omega, Int.add_mul_emod_self_left, Int.emod_eq_of_lt (by omega) (by omega)]
  omega
theorem nrm_of {t : Int} (h : 0 < t) : ∃ q r, t = 65535 * q + r ∧ 0 ≤ q ∧ 1 ≤ r ∧ r ≤ 65535 :=
  ⟨(t - 1) / 65535, (t - 1) % 65535 + 1, by omega, by omega, by omega, by omega⟩
theorem nrm_jn {t y : Int} (h : 0 ≤ t) (h0 : 0 ≤ y) (h1 : y ≤ 65535) : jn (nrm t) y = nrm (t + y) := by
  by_cases ht : t = 0
  · subst ht
    rw [show (0 : Int) + y = y by omega, nrm_id h0 h1]
    simp only [nrm, if_pos, jn]
    rw [if_neg (by omega)]; omega
  · obtain ⟨q, r, rfl, hq, hr0, hr1⟩ := nrm_of (t := t) (by omega)
    rw [nrm_mk q hq hr0 hr1]
    unfold jn
    by_cases hc : 65536 ≤ r + y
    · rw [if_pos hc, show 65535 * q + r + y = 65535 * (q + 1) + (r + y - 65535) by omega, nrm_mk (q + 1) (by omega) (by omega) (by omega)]
    · rw [if_neg hc, show 65535 * q + r + y = 65535 * q + (r + y) by omega, nrm_mk q hq (by omega) (by omega)]
theorem jn_nrm {s t : Int} (hs : 0 ≤ s) (ht : 0 ≤ t) : jn (nrm s) (nrm t) = nrm (s + t) := by
  rw [nrm_jn hs (nrm_bd ht).1 (nrm_bd ht).2]
  by_cases h : t = 0
  · subst h; simp [nrm]
  · obtain ⟨q, r, rfl, hq, hr0, hr1⟩ := nrm_of (t := t) (by omega)
    rw [nrm_mk q hq hr0 hr1]
    obtain ⟨q', r', e, hq', hr0', hr1'⟩ := nrm_of (t := s + r) (by omega)
    rw [e, nrm_mk q' hq' hr0' hr1', show s + (65535 * q + r) = 65535 * (q + q') + r' by omega, nrm_mk (q + q') (by omega) hr0' hr1']
theorem isB_nil : IsB [] := fun k hk => absurd hk (by simp)
theorem isB_cons {a : Int} {r : List Int} : IsB (a :: r) ↔ (0 ≤ a ∧ a ≤ 255) ∧ IsB r := by
  constructor
  · intro h
    exact ⟨by simpa using h 0 (by simp), fun k hk => by simpa using h (k + 1) (by simpa using hk)⟩
  · rintro ⟨h0, h⟩ k hk
    cases k with
    | zero => simpa using h0
    | succ k => simpa using h k (by simpa using hk)
theorem tot_pos : ∀ {xs : List Int}, IsB xs → 0 ≤ tot xs
  | [], _ => by simp [tot]
  | [a], h => by have := (isB_cons.1 h).1; unfold tot; omega
  | a :: b :: r, h => by
    have h1 := isB_cons.1 h
    have h2 := isB_cons.1 h1.2
    have := tot_pos h2.2
    unfold tot; omega
theorem ofs_bd {xs : List Int} (h : IsB xs) : 0 ≤ ofs xs ∧ ofs xs ≤ 65535 := by
  have := nrm_bd (tot_pos h)
  unfold ofs; omega
/-- One word more. -/
theorem tot_step : ∀ (xs : List Int) (j : Nat), tot (xs.take (2 * (j + 1))) = tot (xs.take (2 * j)) + wrd xs j
  | [], j => by simp [tot, wrd]
  | [a], 0 => by simp [tot, wrd]
  | [a], j + 1 => by
    rw [show 2 * (j + 1 + 1) = 2 * (j + 1) + 1 + 1 by omega, show 2 * (j + 1) = 2 * j + 1 + 1 by omega]
    simp [tot, wrd]
  | a :: b :: r, 0 => by simp [tot, wrd]
  | a :: b :: r, j + 1 => by
    have h := tot_step r j
    rw [show 2 * (j + 1 + 1) = 2 * (j + 1) + 1 + 1 by omega, List.take_succ_cons, List.take_succ_cons, show 2 * (j + 1) = 2 * j + 1 + 1 by omega, List.take_succ_cons, List.take_succ_cons]
    rw [show 2 * (j + 1) = 2 * j + 1 + 1 by omega] at h
    have e : wrd (a :: b :: r) (j + 1) = wrd r j := by
      unfold wrd
      rw [show 2 * (j + 1) = 2 * j + 1 + 1 by omega, List.getD_cons_succ, List.getD_cons_succ, List.getD_cons_succ, List.getD_cons_succ]
    rw [e]
    unfold tot
    rw [h]; omega
theorem tot_zero (xs : List Int) : tot (xs.take (2 * 0)) = 0 := by simp [tot]
theorem tot_full (xs : List Int) {j : Nat} (h : xs.length ≤ 2 * j) : tot (xs.take (2 * j)) = tot xs := by
  rw [List.take_of_length_le h]
theorem isB_take {xs : List Int} (h : IsB xs) (n : Nat) : IsB (xs.take n) := by
  intro k hk
  have hk' : k < n := by rw [List.length_take] at hk; omega
  rw [List.getD_eq_getElem?_getD, List.getElem?_take_of_lt hk', ← List.getD_eq_getElem?_getD]
  exact getD_bd h k
/-- The loop's sum, one word on. -/
theorem nrm_step {xs : List Int} (h : IsB xs) (j : Nat) : jn (nrm (tot (xs.take (2 * j)))) (wrd xs j) = nrm (tot (xs.take (2 * (j + 1)))) := by
  rw [tot_step, nrm_jn (tot_pos (isB_take h _)) (wrd_bd h j).1 (wrd_bd h j).2]
/-- One byte changed. -/
theorem tot_set : ∀ (xs : List Int) (k : Nat) (v : Int), k < xs.length → tot (xs.set k v) = tot xs + (v - xs.getD k 0) * wt k
  | [], k, v, h => by simp at h
  | [a], 0, v, _ => by simp [tot, wt]; omega
  | [a], k + 1, v, h => by simp at h
  | a :: b :: r, 0, v, _ => by simp [tot, wt]; omega
  | a :: b :: r, 1, v, _ => by simp [tot, wt]; omega
  | a :: b :: r, k + 2, v, h => by
    have hi := tot_set r k v (by simpa using h)
    have hw : wt (k + 2) = wt k := by unfold wt; rw [show (k + 2) % 2 = k % 2 by omega]
    simp only [List.set_cons_succ, tot, hw, List.getD_cons_succ]
    rw [hi]; omega
theorem isB_set {xs : List Int} (h : IsB xs) (k : Nat) {v : Int} (h0 : 0 ≤ v) (h1 : v ≤ 255) : IsB (xs.set k v) := by
  intro j hj
  rw [List.length_set] at hj
  by_cases e : k = j
  · subst e; simp [hj, h0, h1]
  · rw [List.getD_eq_getElem?_getD, List.getElem?_set_ne e, ← List.getD_eq_getElem?_getD]
    exact h j hj
theorem getD_set_self {xs : List Int} {k : Nat} (v : Int) (h : k < xs.length) : (xs.set k v).getD k 0 = v := by simp [h]
theorem getD_set_ne {xs : List Int} {k j : Nat} (v : Int) (h : k ≠ j) : (xs.set k v).getD j 0 = xs.getD j 0 := by
  rw [List.getD_eq_getElem?_getD, List.getElem?_set_ne h, ← List.getD_eq_getElem?_getD]
/-- A word put at an even place. -/
def putw (xs : List Int) (k : Nat) (v : Int) : List Int := (xs.set k (v / 256)).set (k + 1) (v % 256)
theorem putw_len (xs : List Int) (k : Nat) (v : Int) : (putw xs k v).length = xs.length := by simp [putw]
theorem isB_putw {xs : List Int} (h : IsB xs) (k : Nat) {v : Int} (h0 : 0 ≤ v) (h1 : v ≤ 65535) : IsB (putw xs k v) :=
  isB_set (isB_set h _ (by omega) (by omega)) _ (by omega) (by omega)
theorem tot_putw {xs : List Int} {k : Nat} (v : Int) (he : k % 2 = 0) (hk : k + 1 < xs.length) :
    tot (putw xs k v) = tot xs - xs.getD k 0 * 256 - xs.getD (k + 1) 0 + v := by
  unfold putw
  rw [tot_set _ _ _ (by simpa using hk), tot_set _ _ _ (by omega), getD_set_ne _ (by omega)]
  have w1 : wt k = 256 := by unfold wt; rw [if_pos he]
  have w2 : wt (k + 1) = 1 := by unfold wt; rw [if_neg (by omega)]
  rw [w1, w2]; omega
theorem putw_getD_ne {xs : List Int} {k j : Nat} (v : Int) (h0 : j ≠ k) (h1 : j ≠ k + 1) : (putw xs k v).getD j 0 = xs.getD j 0 := by
  unfold putw
  rw [getD_set_ne _ (fun e => h1 e.symm), getD_set_ne _ (fun e => h0 e.symm)]
theorem putw_getD_0 {xs : List Int} {k : Nat} (v : Int) (h : k < xs.length) : (putw xs k v).getD k 0 = v / 256 := by
  unfold putw
  rw [getD_set_ne _ (by omega), getD_set_self _ h]
theorem putw_getD_1 {xs : List Int} {k : Nat} (v : Int) (h : k + 1 < xs.length) : (putw xs k v).getD (k + 1) 0 = v % 256 := by
  unfold putw
  rw [getD_set_self _ (by simpa using h)]
/-- What Put answers. -/
def put0 (xs : List Int) (k : Nat) : List Int := putw xs k 0
def putS (xs : List Int) (k : Nat) : List Int := putw (put0 xs k) k (ofs (put0 xs k))
theorem putw_putw (xs : List Int) (k : Nat) (u v : Int) : putw (putw xs k u) k v = putw xs k v := by
  unfold putw
  apply List.ext_getElem?
  intro i
  simp only [List.getElem?_set, List.length_set]
  by_cases h1 : k + 1 = i <;> by_cases h2 : k = i <;> simp [h1, h2] <;> omega
theorem put0_len (xs : List Int) (k : Nat) : (put0 xs k).length = xs.length := putw_len _ _ _
theorem putS_len (xs : List Int) (k : Nat) : (putS xs k).length = xs.length := by unfold putS; rw [putw_len, put0_len]
theorem isB_put0 {xs : List Int} (h : IsB xs) (k : Nat) : IsB (put0 xs k) := isB_putw h k (by omega) (by omega)
theorem isB_putS {xs : List Int} (h : IsB xs) (k : Nat) : IsB (putS xs k) :=
  isB_putw (isB_put0 h k) k (ofs_bd (isB_put0 h k)).1 (ofs_bd (isB_put0 h k)).2
theorem putS_getD_ne {xs : List Int} {k j : Nat} (h0 : j ≠ k) (h1 : j ≠ k + 1) : (putS xs k).getD j 0 = xs.getD j 0 := by
  unfold putS put0
  rw [putw_getD_ne _ h0 h1, putw_getD_ne _ h0 h1]
/-- What has its sum put into it is whole. -/
theorem ofs_putS {xs : List Int} (h : IsB xs) {k : Nat} (he : k % 2 = 0) (hk : k + 1 < xs.length) : ofs (putS xs k) = 0 := by
  have h0 : (put0 xs k).getD k 0 = 0 := by unfold put0; rw [putw_getD_0 _ (by omega)]; rfl
  have h1 : (put0 xs k).getD (k + 1) 0 = 0 := by unfold put0; rw [putw_getD_1 _ hk]; rfl
  have e : tot (putS xs k) = tot (put0 xs k) + ofs (put0 xs k) := by
    unfold putS
    rw [tot_putw _ he (by rw [put0_len]; exact hk), h0, h1]; omega
  have hp := tot_pos (isB_put0 h k)
  unfold ofs at e ⊢
  rw [e]
  generalize tot (put0 xs k) = t at *
  unfold nrm
  by_cases ht : t = 0
  · subst ht; simp
  · rw [if_neg ht, if_neg (by omega)]; omega
/-- Whole or not hangs on the total alone. -/
theorem ofs_zero {xs : List Int} (h : IsB xs) : ofs xs = 0 ↔ 0 < tot xs ∧ tot xs % 65535 = 0 := by
  have hp := tot_pos h
  unfold ofs nrm
  by_cases ht : tot xs = 0
  · simp [ht]
  · rw [if_neg ht]; omega
theorem tot_append : ∀ (xs ys : List Int), xs.length % 2 = 0 → tot (xs ++ ys) = tot xs + tot ys
  | [], ys, _ => by simp [tot]
  | [a], ys, h => by simp at h
  | a :: b :: r, ys, h => by
    have := tot_append r ys (by simp at h; omega)
    simp only [List.cons_append, tot]
    rw [this]; omega
theorem tot_zeros : ∀ (xs : List Int), tot (xs ++ [0, 0]) = tot xs
  | [] => by simp [tot]
  | [a] => by simp [tot]
  | a :: b :: r => by
    have := tot_zeros r
    simp only [List.cons_append, tot]
    rw [this]
theorem isB_append {xs ys : List Int} (h1 : IsB xs) (h2 : IsB ys) : IsB (xs ++ ys) := by
  intro k hk
  rw [List.length_append] at hk
  by_cases h : k < xs.length
  · rw [List.getD_eq_getElem?_getD, List.getElem?_append_left h, ← List.getD_eq_getElem?_getD]; exact h1 k h
  · rw [List.getD_eq_getElem?_getD, List.getElem?_append_right (by omega), ← List.getD_eq_getElem?_getD]; exact h2 _ (by omega)
theorem tot_rep : ∀ (n : Nat), tot (List.replicate n 0) = 0
  | 0 => by simp [tot]
  | 1 => by simp [tot, List.replicate]
  | n + 2 => by
    have := tot_rep n
    rw [List.replicate_succ, List.replicate_succ]
    simp only [tot]
    rw [this]; omega
theorem isB_rep (n : Nat) : IsB (List.replicate n 0) := by
  intro k hk
  simp at hk
  simp [hk]
end Go.Proofs.Ytmcnanoamgkljaa
/- Bits of small numbers: no program in it. -/
namespace Go.Proofs.Ytmcnanoamgkljaa
set_option linter.unusedVariables false

theorem or_hl {x y : Int} (h1 : 0 ≤ x ∧ x ≤ 255) (h2 : 0 ≤ y ∧ y ≤ 255) : bits .or .u16 (x * 256) y = x * 256 + y :=
  bits_join .u16 16 (by decide) wraps_u16 8 (x * 256) y (by omega) (by omega) (by omega) (by omega) (by omega) (by omega)
/-- All bits turned round. -/
theorem not16 {s : Int} (h0 : 0 ≤ s) (h1 : s ≤ 65535) : bits .xor .u16 IntKind.u16.max s = 65535 - s := by
  obtain ⟨a, rfl⟩ := Int.eq_ofNat_of_zero_le h0
  have ha : a < 2 ^ 16 := by omega
  have e : (BitVec.ofInt 16 IntKind.u16.max : BitVec 16) = BitVec.allOnes 16 := by decide
  show IntKind.u16.wrap (((BitVec.ofInt 16 IntKind.u16.max : BitVec 16) ^^^ (BitVec.ofInt 16 (a : Int) : BitVec 16)).toNat : Int) = _
  rw [e, BitVec.ofInt_natCast]
  have e2 : (BitVec.allOnes 16 ^^^ BitVec.ofNat 16 a).toNat = 65535 - a := by
    rw [BitVec.allOnes_xor, BitVec.toNat_not, BitVec.toNat_ofNat, Nat.mod_eq_of_lt ha]
  show IntKind.u16.wrap ((BitVec.allOnes 16 ^^^ BitVec.ofNat 16 a).toNat : Int) = _
  rw [e2, wraps_u16 _ (by omega) (by omega)]
  omega
theorem xor8 {x y : Int} (h1 : 0 ≤ x ∧ x ≤ 255) (h2 : 0 ≤ y ∧ y ≤ 255) : bits .xor .u8 x y = ((x.toNat ^^^ y.toNat : Nat) : Int) ∧ x.toNat ^^^ y.toNat < 256 := by
  obtain ⟨a, rfl⟩ := Int.eq_ofNat_of_zero_le h1.1
  obtain ⟨b, rfl⟩ := Int.eq_ofNat_of_zero_le h2.1
  have ha : a < 2 ^ 8 := by omega
  have hb : b < 2 ^ 8 := by omega
  have hx : a ^^^ b < 2 ^ 8 := Nat.xor_lt_two_pow ha hb
  refine ⟨?_, hx⟩
  show IntKind.u8.wrap ((BitVec.ofInt 8 (a : Int) ^^^ BitVec.ofInt 8 (b : Int)).toNat : Int) = _
  rw [BitVec.ofInt_natCast, BitVec.ofInt_natCast, BitVec.toNat_xor, BitVec.toNat_ofNat, BitVec.toNat_ofNat, Nat.mod_eq_of_lt ha, Nat.mod_eq_of_lt hb, wraps_u8 _ (by omega) (by omega)]
  rfl
/-- A byte with some of its bits turned round is another one. -/
theorem xor8_other {x y : Int} (h1 : 0 ≤ x ∧ x ≤ 255) (h2 : 0 ≤ y ∧ y ≤ 255) (hy : y ≠ 0) : bits .xor .u8 x y ≠ x ∧ 0 ≤ bits .xor .u8 x y ∧ bits .xor .u8 x y ≤ 255 := by
  obtain ⟨e, hlt⟩ := xor8 h1 h2
  rw [e]
  refine ⟨?_, by omega, by omega⟩
  intro h
  obtain ⟨a, rfl⟩ := Int.eq_ofNat_of_zero_le h1.1
  obtain ⟨b, rfl⟩ := Int.eq_ofNat_of_zero_le h2.1
  have h' : a ^^^ b = a := by
    have : ((a ^^^ b : Nat) : Int) = (a : Int) := h
    omega
  have h3 : a ^^^ (a ^^^ b) = a ^^^ a := by rw [h']
  rw [← Nat.xor_assoc, Nat.xor_self, Nat.zero_xor] at h3
  apply hy
  rw [h3]; rfl
end Go.Proofs.Ytmcnanoamgkljaa
/- Rows of bytes that a call itself made. -/
namespace Go.Proofs.Ytmcnanoamgkljaa
set_option linter.unusedVariables false
open Go.RowKit

theorem info8 : (Try.prog.info? 5).map (fun i => (i.zero, i.size, i.bytes)) = some (some (.int .u8 0), 1, 1) := by kernel_rfl
theorem infos8 : (Try.prog.info? 5).map (·.size) = some 1 := by kernel_rfl
def vb (xs : List Int) : List Value := xs.map (Value.int .u8)
theorem add_flat (b o j : Nat) : (⟨b, o, none⟩ : Addr).add j = ⟨b, o + j, none⟩ := by simp [Addr.add]
theorem vb_len (xs : List Int) : (vb xs).length = xs.length := by simp [vb]
theorem vb_oneCell (xs : List Int) : ∀ v ∈ vb xs, v.oneCell' = true := by
  intro v hv
  simp only [vb, List.mem_map] at hv
  obtain ⟨x, _, rfl⟩ := hv
  rfl
theorem vb_get {xs : List Int} {j : Nat} {v : Value} (h : (vb xs)[j]? = some v) : j < xs.length ∧ v = .int .u8 (xs.getD j 0) := by
  have hj : j < (vb xs).length := (List.getElem?_eq_some_iff.1 h).1
  rw [vb_len] at hj
  refine ⟨hj, ?_⟩
  rw [vb, List.getElem?_map, List.getElem?_eq_getElem hj] at h
  simp at h
  rw [← h, List.getD_eq_getElem?_getD, List.getElem?_eq_getElem hj]; rfl
/-- Block g is a row of the bytes xs, none frozen. -/
def Ob (w : World) (g : Nat) (xs : List Int) : Prop := w.rowIs g 5 xs.length (fun i => .int .u8 (xs.getD i 0))
namespace Ob
variable {w w' : World} {g : Nat} {xs : List Int}
theorem cell (h : Ob w g xs) {k : Nat} (hk : k < xs.length) : w.cell? ⟨g, k, none⟩ = some (.int .u8 (xs.getD k 0)) := World.rowIs.cell h hk
theorem frozen (h : Ob w g xs) (k : Nat) : w.frozen? ⟨g, k, none⟩ = false := World.rowIs.frozen h k
theorem lt (h : Ob w g xs) : g < w.heap.size := World.rowIs.lt h
theorem of_block (h : Ob w g xs) (e : w'.heap[g]? = w.heap[g]?) : Ob w' g xs := World.rowIs.of_block h e
theorem alloc (h : Ob w g xs) (o : Obj) : Ob (w.alloc o) g xs := World.rowIs.alloc h o
theorem drewN (h : Ob w g xs) (n : Nat) : Ob (w.drewN n) g xs := h
theorem below {B : Nat} (h : Ob w g xs) (hb : Below B w w') (hg : g < B) : Ob w' g xs := h.of_block (hb.block g hg)
theorem set (h : Ob w g xs) (k : Nat) (v : Int) (hk : k < xs.length) : Ob (w.setCell ⟨g, k, none⟩ (.int .u8 v)) g (xs.set k v) := by
  have h1 := World.rowIs.set h k (.int .u8 v)
  unfold Ob
  rw [List.length_set]
  refine h1.congr fun i hi => ?_
  by_cases e : i = k
  · subst e; simp [hi]
  · rw [if_neg e, List.getD_eq_getElem?_getD, List.getD_eq_getElem?_getD, List.getElem?_set_ne (fun h => e h.symm)]
theorem bs (h : Ob w g xs) (hb : ∀ k, k < xs.length → 0 ≤ xs.getD k 0 ∧ xs.getD k 0 ≤ 255) : Bs w (some ⟨g, 0, none⟩) xs :=
  ⟨.inr ⟨g, 0, rfl, fun k hk => by rw [Nat.zero_add]; exact h.cell hk⟩, hb⟩
theorem of_heap (h : w.heap[g]? = some (.cells (vb xs).toArray 5 (0, 0))) : Ob w g xs :=
  ⟨_, h, by simp [vb], fun i hi => by simp [vb, hi]⟩
theorem heap (h : Ob w g xs) : w.heap[g]? = some (.cells (vb xs).toArray 5 (0, 0)) := by
  obtain ⟨c, hc, hn, he⟩ := h
  rw [hc]
  have : c = (vb xs).toArray := by
    apply Array.ext_getElem?
    intro i
    by_cases hi : i < xs.length
    · rw [he i hi]; simp [vb, hi]
    · rw [Array.getElem?_eq_none (by omega), Array.getElem?_eq_none (by simp [vb]; omega)]
  rw [this]
theorem made (w : World) (n : Nat) : Ob (w.alloc (.cells (madeCells #[.int .u8 0] n) 5)) w.heap.size (List.replicate n 0) := by
  have h := World.rowIs_made w (.int .u8 0) n 5
  unfold Ob
  rw [List.length_replicate]
  exact h.congr fun i hi => by simp [hi]
end Ob
/-- Block g begins with the bytes xs, none frozen. -/
def Og (w : World) (g : Nat) (xs : List Int) : Prop := ∃ c : Array Value, w.heap[g]? = some (.cells c 5 (0, 0)) ∧ xs.length ≤ c.size ∧ ∀ i, i < xs.length → c[i]? = some (.int .u8 (xs.getD i 0))
namespace Og
variable {w w' : World} {g : Nat} {xs : List Int}
theorem cell (h : Og w g xs) {k : Nat} (hk : k < xs.length) : w.cell? ⟨g, k, none⟩ = some (.int .u8 (xs.getD k 0)) := by
  obtain ⟨c, hb, _, hc⟩ := h
  simp [World.cell?, hb, hc k hk]
theorem frozen (h : Og w g xs) (k : Nat) : w.frozen? ⟨g, k, none⟩ = false := by
  obtain ⟨c, hb, _, _⟩ := h
  simp [World.frozen?, hb]
theorem lt (h : Og w g xs) : g < w.heap.size := by
  obtain ⟨c, hb, _, _⟩ := h
  exact (Array.getElem?_eq_some_iff.1 hb).1
theorem of_block (h : Og w g xs) (e : w'.heap[g]? = w.heap[g]?) : Og w' g xs := by
  obtain ⟨c, hb, h2⟩ := h
  exact ⟨c, e.trans hb, h2⟩
theorem below {B : Nat} (h : Og w g xs) (hb : Below B w w') (hg : g < B) : Og w' g xs := h.of_block (hb.block g hg)
theorem set (h : Og w g xs) (k : Nat) (v : Int) (hk : k < xs.length) : Og (w.setCell ⟨g, k, none⟩ (.int .u8 v)) g (xs.set k v) := by
  obtain ⟨c, hb, hn, hc⟩ := h
  refine ⟨c.setIfInBounds k (.int .u8 v), ?_, by simpa using hn, fun j hj => ?_⟩
  · simp [World.setCell, Array.getElem?_modify, hb]
  · rw [List.length_set] at hj
    rw [Array.getElem?_setIfInBounds]
    by_cases e : k = j
    · subst e
      rw [if_pos rfl, if_pos (by omega)]; simp [hj]
    · rw [if_neg e, hc j hj, List.getD_eq_getElem?_getD, List.getD_eq_getElem?_getD, List.getElem?_set_ne e]
theorem bs (h : Og w g xs) (hb : ∀ k, k < xs.length → 0 ≤ xs.getD k 0 ∧ xs.getD k 0 ≤ 255) : Bs w (some ⟨g, 0, none⟩) xs :=
  ⟨.inr ⟨g, 0, rfl, fun k hk => by rw [Nat.zero_add]; exact h.cell hk⟩, hb⟩
/-- What append made. -/
theorem owned {B n : Nat} {v : Value} (h : w.ownsRow B 5 1 v n (vb xs)) (hn : 0 < n) : ∃ g cap, v = .slice (some ⟨g, 0, none⟩) n cap ∧ B ≤ g ∧ Og w g xs := by
  obtain ⟨hl, h⟩ := h
  rw [vb_len] at hl
  rcases h with ⟨_, rfl⟩ | ⟨g, cap, cur, rfl, hB, hg, hnc, _, hsz, htk⟩
  · omega
  · refine ⟨g, cap, rfl, hB, cur, hg, by omega, fun i hi => ?_⟩
    have h1 : (cur.toList.take (n * 1))[i]? = some (.int .u8 (xs.getD i 0)) := by rw [htk]; simp [vb, hi]
    rw [List.getElem?_take_of_lt (by omega)] at h1
    simpa using h1
end Og
theorem own_ge {w : World} {B n : Nat} {e : TypeId} {v : Value} {l : List Value} (h : w.ownsRow B e 1 v n l) : ∀ k, v.ownBlock = some k → B ≤ k := by
  intro k hk
  rcases h.2 with ⟨rfl, _⟩ | ⟨g, cap, cur, rfl, hB, _⟩
  · simp [Value.ownBlock] at hk
  · simp [Value.ownBlock] at hk
    omega
/-- What an append of one, whose operand lay in a new block, leaves. -/
theorem app_below {w0 wr w1 : World} {B n : Nat} {e : TypeId} {v : Value} {l : List Value} {o : Obj} (hb : Below B w0 wr) (hB : B ≤ wr.heap.size) (hown : wr.ownsRow B e 1 v n l) (hg : (wr.alloc o).grownBy w1 v.ownBlock) : Below B w0 w1 :=
  (hb.alloc hB o).grown hg (by simp; omega) (own_ge hown)
theorem vb_snoc (xs : List Int) (k : Nat) (hk : k < xs.length) : vb (xs.take k) ++ [.int .u8 (xs.getD k 0)] = vb (xs.take (k + 1)) := by
  rw [List.take_succ_eq_append_getElem hk, vb, vb, List.map_append, List.getD_eq_getElem?_getD, List.getElem?_eq_getElem hk]; rfl
/-- A slice of the call's own (blocks from B on) that holds the bytes xs; it may be appended to. -/
def Ow (w : World) (B : Nat) (a : Option Addr) (n cap : Nat) (xs : List Int) : Prop := w.ownsRow B 5 1 (.slice a n cap) n (vb xs) ∧ xs.length = n
namespace Ow
variable {w w' : World} {B n cap : Nat} {a : Option Addr} {xs : List Int}
theorem len (h : Ow w B a n cap xs) : xs.length = n := h.2
theorem nil (h : Ow w B a n cap xs) : a = none → n = 0 ∧ cap = 0 := by
  rintro rfl
  rcases h.1.2 with ⟨e, h0⟩ | ⟨g, c, cur, e, _⟩
  · simp at e; exact e
  · simp at e
theorem og (h : Ow w B a n cap xs) (hn : 0 < n) : ∃ g, a = some ⟨g, 0, none⟩ ∧ B ≤ g ∧ Og w g xs := by
  obtain ⟨g, c, e, hB, ho⟩ := Og.owned h.1 hn
  simp at e
  exact ⟨g, e.1, hB, ho⟩
theorem bs (h : Ow w B a n cap xs) (hb : ∀ k, k < xs.length → 0 ≤ xs.getD k 0 ∧ xs.getD k 0 ≤ 255) : Bs w a xs := by
  rcases Nat.eq_zero_or_pos n with rfl | hn
  · exact ⟨.inl (List.eq_nil_of_length_eq_zero h.2), hb⟩
  · obtain ⟨g, rfl, _, ho⟩ := h.og hn
    exact ho.bs hb
theorem empty (w : World) (hB : B ≤ w.heap.size) : Ow (w.alloc (.cells #[] 5)) B (some ⟨w.heap.size, 0, none⟩) 0 0 [] :=
  ⟨⟨rfl, .inr ⟨w.heap.size, 0, #[], rfl, hB, Go.Deep.blk_alloc_new _ _, Nat.le_refl _, by unfold maxLen; omega, rfl, rfl⟩⟩, rfl⟩
theorem alloc (h : Ow w B a n cap xs) (o : Obj) : Ow (w.alloc o) B a n cap xs := ⟨h.1.alloc o, h.2⟩
theorem below {C : Nat} (h : Ow w B a n cap xs) (hb : Below C w w') (hC : w.heap.size ≤ C) : Ow w' B a n cap xs := by
  refine ⟨⟨h.1.1, ?_⟩, h.2⟩
  rcases h.1.2 with e | ⟨g, c, cur, e, h1, h2, h3⟩
  · exact .inl e
  · exact .inr ⟨g, c, cur, e, h1, (hb.block g (Nat.lt_of_lt_of_le (Array.getElem?_eq_some_iff.1 h2).1 hC)).trans h2, h3⟩
end Ow
theorem vb_append (xs ys : List Int) : vb (xs ++ ys) = vb xs ++ vb ys := by simp [vb]
/-- append(own, src...), src whatever holds bytes. -/
theorem wpList_app_bs {w : World} {ops : Array Oper} {rest : List Oper} {o : Oper} {a : Act} {Q : Exit → Act → World → Prop} (hgd : o.guard = none) (s x : Operand)
    (ho : o.op = .call { callee := .builtin .append, args := #[s, x], argTypes := #[30, 30] }) (B : Nat) (a1 : Option Addr) (n cap : Nat) (xs : List Int) (hs : a.eval s = .slice a1 n cap) (hown : Ow w B a1 n cap xs)
    (a2 : Option Addr) (m c : Nat) (ys : List Int) (hx : a.eval x = .slice a2 m c) (hy : ys.length = m) (hb : Bs w a2 ys) (hnil : a2 = none → m = 0 ∧ c = 0) (hsz : n + m ≤ 1000000) (w0 : World) (hB : B ≤ w.heap.size) (hbel : Below B w0 w)
    (h : ∀ a' cap' w', Hid (Ow w' B a' (n + m) cap' (xs ++ ys)) → Below B w0 w' → wpList Try.prog ops Q rest (a.put o.dst (.slice a' (n + m) cap')) w') : wpList Try.prog ops Q (o :: rest) a w := by
  obtain ⟨i0, hi, hz0, hz1, hz2⟩ := info_parts info8
  rcases ha : a2 with _ | ad
  · obtain ⟨rfl, rfl⟩ := hnil ha
    obtain rfl : ys = [] := List.eq_nil_of_length_eq_zero hy
    refine wpList_append_own_none hgd s x 30 ho B 5 i0 1 Try.underlying30 hi _ n (vb xs) hs hown.1 (by rw [hx, ha]) ?_
    have := h a1 cap w (by rw [List.append_nil]; exact hown) hbel
    simpa using this
  · refine wpList_append_own w hgd s x 30 ho B 5 i0 (.int .u8 0) 1 1 Try.underlying30 hi hz0 hz1 hz2 rfl (by decide) _ n (vb xs) hs hown.1 ad m c (vb ys) (by rw [hx, ha]) (by rw [vb_len, hy]; omega) ?_ (vb_oneCell ys) (by unfold maxLen; omega) (by omega) hB ?_
    · intro j u hu
      obtain ⟨hj, rfl⟩ := vb_get hu
      rcases hb.1 with rfl | ⟨b, off, e, hc⟩
      · simp at hj
      · rw [ha] at e; cases e
        rw [add_flat]; exact hc j hj
    · intro v' w' hown' hgrow _
      have hbel' : Below B w0 w' := hbel.grown hgrow hB (own_ge hown.1)
      have hl : (xs ++ ys).length = n + m := by rw [List.length_append, hown.2, hy]
      rw [← vb_append] at hown'
      rcases hown'.2 with ⟨rfl, e0⟩ | ⟨g, cap', cur, rfl, _⟩
      · have := h none 0 w' ⟨by rw [e0] at hown' ⊢; exact hown', hl⟩ hbel'
        rw [e0] at this; exact this
      · exact h _ cap' w' ⟨hown', hl⟩ hbel'
/-- Copied whole. -/
theorem splice_vb (ys xs : List Int) (h : ys.length = xs.length) : splice (vb ys) 0 (vb xs) = vb xs := by
  unfold splice
  rw [List.take_zero, List.nil_append, Nat.zero_add, List.drop_eq_nil_of_le (by rw [vb_len, vb_len]; omega), List.append_nil]
theorem vb_one (xs : List Int) : ∀ v ∈ vb xs, v.oneCell' = true := by
  intro v hv
  simp only [vb, List.mem_map] at hv
  obtain ⟨x, _, rfl⟩ := hv
  rfl
/-- The source of a copy. -/
theorem vb_src {w : World} {a : Option Addr} {xs : List Int} (h : Bs w a xs) (hp : 0 < (vb xs).length) : ∃ ad, a = some ad ∧ ∀ j v, (vb xs)[j]? = some v → w.cell? (ad.add j) = some v := by
  rw [vb_len] at hp
  rcases h.1 with rfl | ⟨b, off, rfl, hc⟩
  · simp at hp
  · refine ⟨_, rfl, fun j v hv => ?_⟩
    obtain ⟨hj, rfl⟩ := vb_get hv
    have := hc j hj
    rwa [add_flat]
end Go.Proofs.Ytmcnanoamgkljaa
/- Plain mathematics of headers: no program in it. -/
namespace Go.Proofs.Ytmcnanoamgkljaa
set_option linter.unusedVariables false

structure Hdr where
  src : Int
  dst : Int
  proto : Int
  ttl : Int
  id : Int
  alert : Bool
def Hdr.ok (h : Hdr) : Prop := (0 ≤ h.src ∧ h.src ≤ 4294967295) ∧ (0 ≤ h.dst ∧ h.dst ≤ 4294967295) ∧ (0 ≤ h.proto ∧ h.proto ≤ 255) ∧ (0 ≤ h.ttl ∧ h.ttl ≤ 255) ∧ (0 ≤ h.id ∧ h.id ≤ 65535)
def hz : Hdr := ⟨0, 0, 0, 0, 0, false⟩
def hsz (al : Bool) : Nat := if al then 24 else 20
def fbt (al : Bool) : Int := if al then 70 else 69
def l4 (a : Int) : List Int := [a / 16777216, a / 65536 % 256, a / 256 % 256, a % 256]
def alertL : List Int := [148, 4, 0, 0]
/-- A header's first 20 bytes, without the sum. -/
def base (h : Hdr) (all : Int) : List Int :=
  [fbt h.alert, 0, all / 256, all % 256, h.id / 256, h.id % 256, 0, 0, h.ttl, h.proto, 0, 0] ++ l4 h.src ++ l4 h.dst
def hraw (h : Hdr) (all : Int) : List Int := base h all ++ if h.alert then alertL else []
def hbytes (h : Hdr) (all : Int) : List Int := putS (hraw h all) 10
def enc (h : Hdr) (b : List Int) : List Int := hbytes h ((hsz h.alert + b.length : Nat) : Int) ++ b

def num (xs : List Int) (k : Nat) : Int := xs.getD k 0 * 256 + xs.getD (k + 1) 0
def ofv (xs : List Int) : Int := match xs with | [x0, x1, x2, x3] => ((x0 * 256 + x1) * 256 + x2) * 256 + x3 | _ => 0
def al0 (xs : List Int) : Bool := xs.getD 0 0 == 70
def all0 (xs : List Int) : Nat := (num xs 2).toNat
/-- Are those bytes of a header right that are the same in each, and may all have so many? -/
def formOk (xs : List Int) : Prop :=
  (xs.getD 1 0 = 0 ∧ xs.getD 6 0 = 0 ∧ xs.getD 7 0 = 0) ∧ (al0 xs = true → xs.getD 20 0 = 148 ∧ xs.getD 21 0 = 4 ∧ xs.getD 22 0 = 0 ∧ xs.getD 23 0 = 0) ∧ (hsz (al0 xs) ≤ all0 xs ∧ all0 xs ≤ 1500)
instance (xs : List Int) : Decidable (formOk xs) := by unfold formOk; infer_instance
def fault (xs : List Int) : Int :=
  if xs.length < 20 then 3
  else if ¬(xs.getD 0 0 = 69 ∨ xs.getD 0 0 = 70) then 2
  else if xs.length < hsz (al0 xs) then 3
  else if ¬ ofs (xs.take (hsz (al0 xs))) = 0 then 4
  else if ¬ formOk xs then 2
  else if xs.length < all0 xs then 3
  else if ¬ putS (xs.take (hsz (al0 xs))) 10 = xs.take (hsz (al0 xs)) then 4
  else 0
def hdr (xs : List Int) : Hdr := ⟨ofv ((xs.drop 12).take 4), ofv ((xs.drop 16).take 4), xs.getD 9 0, xs.getD 8 0, num xs 4, al0 xs⟩
def bod (xs : List Int) : List Int := (xs.drop (hsz (al0 xs))).take (all0 xs - hsz (al0 xs))

theorem fbt_hsz (al : Bool) : (fbt al - 64) * 4 = hsz al := by cases al <;> rfl
theorem l4_len (a : Int) : (l4 a).length = 4 := rfl
theorem isB_l4 {a : Int} (h : 0 ≤ a ∧ a ≤ 4294967295) : IsB (l4 a) := by
  obtain ⟨h0, h1⟩ := h
  unfold l4
  exact isB_cons.2 ⟨by omega, isB_cons.2 ⟨by omega, isB_cons.2 ⟨by omega, isB_cons.2 ⟨by omega, isB_nil⟩⟩⟩⟩
theorem isB_alert : IsB alertL := isB_cons.2 ⟨by omega, isB_cons.2 ⟨by omega, isB_cons.2 ⟨by omega, isB_cons.2 ⟨by omega, isB_nil⟩⟩⟩⟩
theorem isB_base {h : Hdr} (hk : h.ok) {all : Int} (h0 : 0 ≤ all) (h1 : all ≤ 65535) : IsB (base h all) := by
  obtain ⟨hs, hd, hp, ht, hi⟩ := hk
  unfold base
  refine isB_append (isB_append ?_ (isB_l4 hs)) (isB_l4 hd)
  have hf : 0 ≤ fbt h.alert ∧ fbt h.alert ≤ 255 := by unfold fbt; split <;> omega
  refine isB_cons.2 ⟨hf, isB_cons.2 ⟨by omega, isB_cons.2 ⟨by omega, isB_cons.2 ⟨by omega, isB_cons.2 ⟨by omega, isB_cons.2 ⟨by omega, isB_cons.2 ⟨by omega, isB_cons.2 ⟨by omega, isB_cons.2 ⟨ht, isB_cons.2 ⟨hp, isB_cons.2 ⟨by omega, isB_cons.2 ⟨by omega, isB_nil⟩⟩⟩⟩⟩⟩⟩⟩⟩⟩⟩⟩
theorem base_len (h : Hdr) (all : Int) : (base h all).length = 20 := rfl
theorem hraw_len (h : Hdr) (all : Int) : (hraw h all).length = hsz h.alert := by
  unfold hraw hsz; rw [List.length_append, base_len]; cases h.alert <;> rfl
theorem isB_hraw {h : Hdr} (hk : h.ok) {all : Int} (h0 : 0 ≤ all) (h1 : all ≤ 65535) : IsB (hraw h all) := by
  unfold hraw
  refine isB_append (isB_base hk h0 h1) ?_
  cases h.alert
  · exact isB_nil
  · exact isB_alert
theorem hbytes_len (h : Hdr) (all : Int) : (hbytes h all).length = hsz h.alert := by unfold hbytes; rw [putS_len, hraw_len]
theorem isB_hbytes {h : Hdr} (hk : h.ok) {all : Int} (h0 : 0 ≤ all) (h1 : all ≤ 65535) : IsB (hbytes h all) := isB_putS (isB_hraw hk h0 h1) 10
theorem hsz_ge (al : Bool) : 20 ≤ hsz al ∧ hsz al ≤ 24 := by cases al <;> decide
theorem enc_len (h : Hdr) (b : List Int) : (enc h b).length = hsz h.alert + b.length := by unfold enc; rw [List.length_append, hbytes_len]
theorem isB_enc {h : Hdr} (hk : h.ok) {b : List Int} (hb : IsB b) (hl : hsz h.alert + b.length ≤ 1500) : IsB (enc h b) :=
  isB_append (isB_hbytes hk (by omega) (by omega)) hb
theorem putS_get {xs : List Int} {j : Nat} (h0 : j ≠ 10) (h1 : j ≠ 11) : (putS xs 10).getD j 0 = xs.getD j 0 := putS_getD_ne h0 h1
theorem getD_app {xs ys : List Int} {j : Nat} (h : j < xs.length) : (xs ++ ys).getD j 0 = xs.getD j 0 := by
  rw [List.getD_eq_getElem?_getD, List.getElem?_append_left h, ← List.getD_eq_getElem?_getD]
/-- What stands behind a header's bytes changes none of them. -/
theorem hb_get {h : Hdr} {all : Int} (more : List Int) {j : Nat} (hj : j < hsz h.alert) (h0 : j ≠ 10) (h1 : j ≠ 11) : (hbytes h all ++ more).getD j 0 = (hraw h all).getD j 0 := by
  rw [getD_app (by rw [hbytes_len]; exact hj)]
  exact putS_get h0 h1
theorem hb_get20 {h : Hdr} {all : Int} (more : List Int) {j : Nat} (hj : j < 20) (h0 : j ≠ 10) (h1 : j ≠ 11) : (hbytes h all ++ more).getD j 0 = (base h all).getD j 0 := by
  have := (hsz_ge h.alert).1
  rw [hb_get more (by omega) h0 h1]
  unfold hraw
  rw [getD_app (by rw [base_len]; exact hj)]
theorem ofv_l4 {a : Int} (h : 0 ≤ a ∧ a ≤ 4294967295) : ofv (l4 a) = a := by
  obtain ⟨h0, h1⟩ := h
  show (((a / 16777216) * 256 + a / 65536 % 256) * 256 + a / 256 % 256) * 256 + a % 256 = a
  omega
theorem list4 {xs : List Int} {k : Nat} (h : k + 4 ≤ xs.length) : (xs.drop k).take 4 = [xs.getD k 0, xs.getD (k + 1) 0, xs.getD (k + 2) 0, xs.getD (k + 3) 0] := by
  apply List.ext_getElem?
  intro i
  by_cases hi : i < 4
  · rw [List.getElem?_take_of_lt hi, List.getElem?_drop]
    have : ∀ j, j < xs.length → xs[j]? = some (xs.getD j 0) := by
      intro j hj
      rw [List.getD_eq_getElem?_getD, List.getElem?_eq_getElem hj]; rfl
    rw [this (k + i) (by omega)]
    match i, hi with
    | 0, _ => rfl
    | 1, _ => rfl
    | 2, _ => rfl
    | 3, _ => rfl
  · rw [List.getElem?_eq_none (by simp; omega), List.getElem?_eq_none (by simp; omega)]
/-- What is told in bytes is the same. -/
theorem hdr_of {h : Hdr} (hk : h.ok) {all : Int} (h0 : 0 ≤ all) (h1 : all ≤ 65535) (more : List Int) : hdr (hbytes h all ++ more) = h ∧ num (hbytes h all ++ more) 2 = all ∧ al0 (hbytes h all ++ more) = h.alert := by
  have hal : al0 (hbytes h all ++ more) = h.alert := by
    unfold al0
    rw [hb_get20 more (by omega) (by omega) (by omega)]
    cases h' : h.alert <;> simp [base, fbt, h']
  have hlen : 20 ≤ (hbytes h all ++ more).length := by rw [List.length_append, hbytes_len]; have := (hsz_ge h.alert).1; omega
  obtain ⟨hs, hd, hp, ht, hi⟩ := hk
  refine ⟨?_, ?_, hal⟩
  · unfold hdr
    rw [hal, list4 (by omega), list4 (by omega)]
    unfold num
    rw [hb_get20 more (j := 12) (by omega) (by omega) (by omega), hb_get20 more (j := 12 + 1) (by omega) (by omega) (by omega), hb_get20 more (j := 12 + 2) (by omega) (by omega) (by omega), hb_get20 more (j := 12 + 3) (by omega) (by omega) (by omega),
      hb_get20 more (j := 16) (by omega) (by omega) (by omega), hb_get20 more (j := 16 + 1) (by omega) (by omega) (by omega), hb_get20 more (j := 16 + 2) (by omega) (by omega) (by omega), hb_get20 more (j := 16 + 3) (by omega) (by omega) (by omega),
      hb_get20 more (j := 9) (by omega) (by omega) (by omega), hb_get20 more (j := 8) (by omega) (by omega) (by omega), hb_get20 more (j := 4) (by omega) (by omega) (by omega), hb_get20 more (j := 4 + 1) (by omega) (by omega) (by omega)]
    have e1 := ofv_l4 hs
    have e2 := ofv_l4 hd
    unfold l4 at e1 e2
    obtain ⟨s, d, p, t, i, al⟩ := h
    simp only [base, l4, List.cons_append, List.nil_append, List.getD_cons_zero, List.getD_cons_succ, Hdr.mk.injEq]
    exact ⟨e1, e2, trivial, trivial, by simp only at hi; omega, trivial⟩
  · unfold num
    rw [hb_get20 more (j := 2) (by omega) (by omega) (by omega), hb_get20 more (j := 2 + 1) (by omega) (by omega) (by omega)]
    simp only [base, List.cons_append, List.getD_cons_zero, List.getD_cons_succ]
    omega
theorem take_hb (h : Hdr) (all : Int) (more : List Int) : (hbytes h all ++ more).take (hsz h.alert) = hbytes h all := by
  rw [List.take_append_of_le_length (by rw [hbytes_len]; omega), List.take_of_length_le (by rw [hbytes_len]; omega)]
theorem putS_putS (xs : List Int) : putS (putS xs 10) 10 = putS xs 10 := by
  have e : put0 (putS xs 10) 10 = put0 xs 10 := by
    unfold putS put0
    rw [putw_putw, putw_putw]
  show putw (put0 (putS xs 10) 10) 10 (ofs (put0 (putS xs 10) 10)) = putw (put0 xs 10) 10 (ofs (put0 xs 10))
  rw [e]
theorem ofs_hbytes {h : Hdr} (hk : h.ok) {all : Int} (h0 : 0 ≤ all) (h1 : all ≤ 65535) : ofs (hbytes h all) = 0 :=
  ofs_putS (isB_hraw hk h0 h1) (by decide) (by rw [hraw_len]; have := (hsz_ge h.alert).1; omega)
/-- A header's bytes, with whatever is behind, as far as it is there. -/
theorem fault_hb {h : Hdr} (hk : h.ok) {all : Nat} (h0 : hsz h.alert ≤ all) (h1 : all ≤ 1500) (more : List Int) : fault (hbytes h all ++ more) = if hsz h.alert + more.length < all then 3 else 0 := by
  obtain ⟨e1, e2, e3⟩ := hdr_of hk (all := (all : Int)) (by omega) (by omega) more
  have hge := hsz_ge h.alert
  have hl : (hbytes h (all : Int) ++ more).length = hsz h.alert + more.length := by rw [List.length_append, hbytes_len]
  have ha : all0 (hbytes h (all : Int) ++ more) = all := by unfold all0; rw [e2]; omega
  have hf : formOk (hbytes h (all : Int) ++ more) := by
    unfold formOk
    rw [e3, ha]
    refine ⟨⟨?_, ?_, ?_⟩, fun hal => ?_, h0, h1⟩
    · rw [hb_get20 more (by omega) (by omega) (by omega)]; rfl
    · rw [hb_get20 more (by omega) (by omega) (by omega)]; rfl
    · rw [hb_get20 more (by omega) (by omega) (by omega)]; rfl
    · have h24 : hsz h.alert = 24 := by rw [hal]; rfl
      rw [hb_get more (by omega) (by omega) (by omega), hb_get more (by omega) (by omega) (by omega), hb_get more (by omega) (by omega) (by omega), hb_get more (by omega) (by omega) (by omega)]
      unfold hraw
      rw [hal]
      simp [base, l4, alertL]
  have hb0 : (hbytes h (all : Int) ++ more).getD 0 0 = fbt h.alert := by rw [hb_get20 more (by omega) (by omega) (by omega)]; rfl
  unfold fault
  rw [hl, hb0, e3, take_hb, ofs_hbytes hk (by omega) (by omega), ha]
  rw [if_neg (by omega), if_neg (by unfold fbt; cases h.alert <;> simp), if_neg (by omega), if_neg (by simp), if_neg (by simp [hf])]
  by_cases hm : hsz h.alert + more.length < all
  · rw [if_pos hm, if_pos hm]
  · rw [if_neg hm, if_neg hm, if_neg]
    rw [show putS (hbytes h (all : Int)) 10 = hbytes h all from putS_putS _]
    simp
theorem bod_hb {h : Hdr} (hk : h.ok) (b more : List Int) (hl : hsz h.alert + b.length ≤ 1500) : bod (enc h b ++ more) = b := by
  unfold enc
  rw [List.append_assoc]
  obtain ⟨e1, e2, e3⟩ := hdr_of hk (all := ((hsz h.alert + b.length : Nat) : Int)) (by omega) (by omega) (b ++ more)
  unfold bod all0
  rw [e3, e2, List.drop_append_of_le_length (by rw [hbytes_len]; omega), List.drop_eq_nil_of_le (by rw [hbytes_len]; omega)]
  rw [show ((hsz h.alert + b.length : Nat) : Int).toNat - hsz h.alert = b.length by omega]
  simp
theorem fault_enc {h : Hdr} (hk : h.ok) (b more : List Int) (hl : hsz h.alert + b.length ≤ 1500) : fault (enc h b ++ more) = 0 ∧ hdr (enc h b ++ more) = h := by
  unfold enc
  rw [List.append_assoc]
  refine ⟨?_, (hdr_of hk (by omega) (by omega) _).1⟩
  rw [fault_hb hk (by omega) hl, if_neg (by rw [List.length_append]; omega)]

/-- What is read of bytes. -/
structure Good (xs : List Int) : Prop where
  len20 : 20 ≤ xs.length
  first : xs.getD 0 0 = 69 ∨ xs.getD 0 0 = 70
  lenH : hsz (al0 xs) ≤ xs.length
  whole : ofs (xs.take (hsz (al0 xs))) = 0
  form : formOk xs
  lenA : all0 xs ≤ xs.length
  summed : putS (xs.take (hsz (al0 xs))) 10 = xs.take (hsz (al0 xs))
theorem good_of {xs : List Int} (h : fault xs = 0) : Good xs := by
  unfold fault at h
  by_cases h1 : xs.length < 20
  · rw [if_pos h1] at h; cases h
  rw [if_neg h1] at h
  by_cases h2 : xs.getD 0 0 = 69 ∨ xs.getD 0 0 = 70
  case neg => rw [if_pos h2] at h; cases h
  rw [if_neg (fun e => e h2)] at h
  by_cases h3 : xs.length < hsz (al0 xs)
  · rw [if_pos h3] at h; cases h
  rw [if_neg h3] at h
  by_cases h4 : ofs (xs.take (hsz (al0 xs))) = 0
  case neg => rw [if_pos h4] at h; cases h
  rw [if_neg (fun e => e h4)] at h
  by_cases h5 : formOk xs
  case neg => rw [if_pos h5] at h; cases h
  rw [if_neg (fun e => e h5)] at h
  by_cases h6 : xs.length < all0 xs
  · rw [if_pos h6] at h; cases h
  rw [if_neg h6] at h
  by_cases h7 : putS (xs.take (hsz (al0 xs))) 10 = xs.take (hsz (al0 xs))
  case neg => rw [if_pos h7] at h; cases h
  exact ⟨by omega, h2, by omega, h4, h5, by omega, h7⟩
theorem num_bd {xs : List Int} (h : IsB xs) (k : Nat) : 0 ≤ num xs k ∧ num xs k ≤ 65535 := by
  have h1 := getD_bd h k
  have h2 := getD_bd h (k + 1)
  unfold num; omega
theorem ofv_bd {xs : List Int} (h : IsB xs) {k : Nat} (hk : k + 4 ≤ xs.length) : 0 ≤ ofv ((xs.drop k).take 4) ∧ ofv ((xs.drop k).take 4) ≤ 4294967295 ∧ l4 (ofv ((xs.drop k).take 4)) = [xs.getD k 0, xs.getD (k + 1) 0, xs.getD (k + 2) 0, xs.getD (k + 3) 0] := by
  rw [list4 hk]
  have h0 := getD_bd h k
  have h1 := getD_bd h (k + 1)
  have h2 := getD_bd h (k + 2)
  have h3 := getD_bd h (k + 3)
  generalize xs.getD k 0 = a at *
  generalize xs.getD (k + 1) 0 = b at *
  generalize xs.getD (k + 2) 0 = c at *
  generalize xs.getD (k + 3) 0 = d at *
  show 0 ≤ ((a * 256 + b) * 256 + c) * 256 + d ∧ ((a * 256 + b) * 256 + c) * 256 + d ≤ 4294967295 ∧ l4 (((a * 256 + b) * 256 + c) * 256 + d) = [a, b, c, d]
  unfold l4
  refine ⟨by omega, by omega, ?_⟩
  simp only [List.cons.injEq, and_true]
  refine ⟨by omega, by omega, by omega, by omega⟩
theorem hdr_ok {xs : List Int} (h : IsB xs) (hl : 20 ≤ xs.length) : (hdr xs).ok := by
  have h1 := ofv_bd h (k := 12) (by omega)
  have h2 := ofv_bd h (k := 16) (by omega)
  exact ⟨⟨h1.1, h1.2.1⟩, ⟨h2.1, h2.2.1⟩, getD_bd h 9, getD_bd h 8, num_bd h 4⟩
theorem putS_congr {xs ys : List Int} (hl : xs.length = ys.length) (h : ∀ j, j ≠ 10 → j ≠ 11 → xs.getD j 0 = ys.getD j 0) : putS xs 10 = putS ys 10 := by
  have e : put0 xs 10 = put0 ys 10 := by
    apply List.ext_getElem
    · rw [put0_len, put0_len, hl]
    intro i h1 h2
    have g : (put0 xs 10).getD i 0 = (put0 ys 10).getD i 0 := by
      rw [put0_len] at h1 h2
      unfold put0
      by_cases h10 : i = 10
      · subst h10; rw [putw_getD_0 _ h1, putw_getD_0 _ h2]
      · by_cases h11 : i = 11
        · subst h11; rw [putw_getD_1 _ h1, putw_getD_1 _ h2]
        · rw [putw_getD_ne _ h10 h11, putw_getD_ne _ h10 h11]; exact h i h10 h11
    simpa [List.getD_eq_getElem?_getD, h1, h2] using g
  unfold putS
  rw [e]
theorem hbytes_hdr {xs : List Int} (h : IsB xs) (h20 : 20 ≤ xs.length) (hf : xs.getD 0 0 = 69 ∨ xs.getD 0 0 = 70) (hH : hsz (al0 xs) ≤ xs.length) (hform : formOk xs) : hbytes (hdr xs) (all0 xs) = putS (xs.take (hsz (al0 xs))) 10 := by
  unfold hbytes
  have hge := hsz_ge (al0 xs)
  refine putS_congr (by rw [hraw_len, List.length_take]; show hsz (al0 xs) = _; omega) fun j h10 h11 => ?_
  by_cases hj : j < hsz (al0 xs)
  · have et : (xs.take (hsz (al0 xs))).getD j 0 = xs.getD j 0 := by rw [List.getD_eq_getElem?_getD, List.getElem?_take_of_lt hj, ← List.getD_eq_getElem?_getD]
    rw [et]
    obtain ⟨⟨f1, f6, f7⟩, fa, _⟩ := hform
    have ha : (all0 xs : Int) = num xs 2 := by unfold all0; have := num_bd h 2; omega
    have hs := (ofv_bd h (k := 12) (by omega)).2.2
    have hd := (ofv_bd h (k := 16) (by omega)).2.2
    have n2 : num xs 2 / 256 = xs.getD 2 0 ∧ num xs 2 % 256 = xs.getD 3 0 := by
      have h1 := getD_bd h 2; have h2 := getD_bd h 3
      show (xs.getD 2 0 * 256 + xs.getD 3 0) / 256 = _ ∧ (xs.getD 2 0 * 256 + xs.getD 3 0) % 256 = _
      omega
    have n4 : num xs 4 / 256 = xs.getD 4 0 ∧ num xs 4 % 256 = xs.getD 5 0 := by
      have h1 := getD_bd h 4; have h2 := getD_bd h 5
      show (xs.getD 4 0 * 256 + xs.getD 5 0) / 256 = _ ∧ (xs.getD 4 0 * 256 + xs.getD 5 0) % 256 = _
      omega
    have hfb : fbt (al0 xs) = xs.getD 0 0 := by
      rcases hf with e | e <;> simp only [al0, e, fbt] <;> rfl
    unfold hraw
    by_cases hj20 : j < 20
    · rw [getD_app (by rw [base_len]; exact hj20)]
      unfold base
      show (([fbt (al0 xs), 0, (all0 xs : Int) / 256, (all0 xs : Int) % 256, num xs 4 / 256, num xs 4 % 256, 0, 0, xs.getD 8 0, xs.getD 9 0, 0, 0] ++ l4 (ofv ((xs.drop 12).take 4)) ++ l4 (ofv ((xs.drop 16).take 4))) : List Int).getD j 0 = _
      rw [hs, hd, ha, n2.1, n2.2, n4.1, n4.2, hfb]
      simp only [List.cons_append, List.nil_append]
      have hc : j = 0 ∨ j = 1 ∨ j = 2 ∨ j = 3 ∨ j = 4 ∨ j = 5 ∨ j = 6 ∨ j = 7 ∨ j = 8 ∨ j = 9 ∨ j = 10 ∨ j = 11 ∨ j = 12 ∨ j = 13 ∨ j = 14 ∨ j = 15 ∨ j = 16 ∨ j = 17 ∨ j = 18 ∨ j = 19 := by omega
      rcases hc with rfl | rfl | rfl | rfl | rfl | rfl | rfl | rfl | rfl | rfl | rfl | rfl | rfl | rfl | rfl | rfl | rfl | rfl | rfl | rfl
      · rfl
      · exact f1.symm
      · rfl
      · rfl
      · rfl
      · rfl
      · exact f6.symm
      · exact f7.symm
      · rfl
      · rfl
      · exact absurd rfl h10
      · exact absurd rfl h11
      · rfl
      · rfl
      · rfl
      · rfl
      · rfl
      · rfl
      · rfl
      · rfl
    · have hal : al0 xs = true := by
        cases e : al0 xs with
        | true => rfl
        | false => rw [e] at hj; simp [hsz] at hj; omega
      have hj24 : j < 24 := by rw [hal] at hj; simpa [hsz] using hj
      obtain ⟨a0, a1, a2, a3⟩ := fa hal
      have e2 : (base (hdr xs) (all0 xs : Int) ++ (if (hdr xs).alert = true then alertL else [])).getD j 0 = alertL.getD (j - 20) 0 := by
        rw [List.getD_eq_getElem?_getD, List.getElem?_append_right (by rw [base_len]; omega), base_len, if_pos (show (hdr xs).alert = true from hal), ← List.getD_eq_getElem?_getD]
      rw [e2]
      have hc : j = 20 ∨ j = 21 ∨ j = 22 ∨ j = 23 := by omega
      rcases hc with rfl | rfl | rfl | rfl
      · exact a0.symm
      · exact a1.symm
      · exact a2.symm
      · exact a3.symm
  · rw [List.getD_eq_getElem?_getD, List.getD_eq_getElem?_getD, List.getElem?_eq_none (by rw [hraw_len]; exact Nat.le_of_not_lt hj), List.getElem?_eq_none (by rw [List.length_take]; omega)]
theorem bod_len {xs : List Int} (hA : all0 xs ≤ xs.length) : (bod xs).length = all0 xs - hsz (al0 xs) := by
  unfold bod; rw [List.length_take, List.length_drop]; omega
theorem take_split {xs : List Int} (hform : formOk xs) : xs.take (all0 xs) = xs.take (hsz (al0 xs)) ++ bod xs := by
  unfold bod
  have := hform.2.2.1
  rw [show all0 xs = hsz (al0 xs) + (all0 xs - hsz (al0 xs)) by omega, List.take_add]
  rw [show hsz (al0 xs) + (all0 xs - hsz (al0 xs)) - hsz (al0 xs) = all0 xs - hsz (al0 xs) by omega]
/-- A frame's header, with what is in it, is its bytes, but for the sum. -/
theorem enc_hdr {xs : List Int} (h : IsB xs) (h20 : 20 ≤ xs.length) (hf : xs.getD 0 0 = 69 ∨ xs.getD 0 0 = 70) (hH : hsz (al0 xs) ≤ xs.length) (hform : formOk xs) (hA : all0 xs ≤ xs.length) :
    enc (hdr xs) (bod xs) = putS (xs.take (hsz (al0 xs))) 10 ++ bod xs ∧ hsz (hdr xs).alert + (bod xs).length = all0 xs := by
  have h0 := hform.2.2.1
  have e : hsz (hdr xs).alert + (bod xs).length = all0 xs := by
    rw [bod_len hA]; show hsz (al0 xs) + _ = _; omega
  refine ⟨?_, e⟩
  unfold enc
  rw [e, hbytes_hdr h h20 hf hH hform]
theorem enc_same {xs : List Int} (h : IsB xs) (h20 : 20 ≤ xs.length) (hf : xs.getD 0 0 = 69 ∨ xs.getD 0 0 = 70) (hH : hsz (al0 xs) ≤ xs.length) (hform : formOk xs) (hA : all0 xs ≤ xs.length) :
    (enc (hdr xs) (bod xs) = xs.take (all0 xs)) ↔ putS (xs.take (hsz (al0 xs))) 10 = xs.take (hsz (al0 xs)) := by
  rw [(enc_hdr h h20 hf hH hform hA).1, take_split hform]
  exact ⟨fun e => List.append_cancel_right e, fun e => by rw [e]⟩
theorem isB_drop {xs : List Int} (h : IsB xs) (n : Nat) : IsB (xs.drop n) := by
  intro k hk
  rw [List.getD_eq_getElem?_getD, List.getElem?_drop, ← List.getD_eq_getElem?_getD]
  exact getD_bd h _
theorem isB_bod {xs : List Int} (h : IsB xs) : IsB (bod xs) := isB_take (isB_drop h _) _
end Go.Proofs.Ytmcnanoamgkljaa
/- Contracts of package addr, and of the document's own answers for it: an address's bytes, and the address of bytes. -/
namespace Go.Proofs.Ytmcnanoamgkljaa
set_option linter.unusedVariables false
open Go.RowKit

def ofe (n : Nat) : Int := if n < 4 then 3 else if 4 < n then 2 else 0
def bytes4 (a : Int) : Obj := .cells #[.int .u8 (a / 16777216), .int .u8 (a / 65536 % 256), .int .u8 (a / 256 % 256), .int .u8 (a % 256)] 5

set_option maxHeartbeats 400000 in
theorem aBytes (a : Int) (w : World) (h0 : 0 ≤ a) (h1 : a ≤ 4294967295) :
    Calls Try.prog 24 #[.int .u32 a] w fun e w' => e = .returned (.slice (some ⟨w.heap.size, 0, none⟩) 4 4) ∧
      w.alloc (.cells #[.int .u8 (a / 16777216), .int .u8 (a / 65536 % 256), .int .u8 (a / 256 % 256), .int .u8 (a % 256)] 5) = w' := by
  go_enter Try.func24, Try.ntmps24
  go_wp2
  go_ret
  exact ⟨rfl, rfl⟩
def acc (xs : List Int) : Int := xs.foldl (fun a x => a * 256 + x) 0

theorem acc_succ (l : List Int) (k : Nat) (h : k < l.length) : acc (l.take (k + 1)) = acc (l.take k) * 256 + l.getD k 0 := by
  unfold acc
  rw [List.take_add_one, List.getElem?_eq_getElem h, List.foldl_append, List.getD_eq_getElem?_getD, List.getElem?_eq_getElem h]
  rfl
theorem acc_bd (l : List Int) (h : ∀ k, k < 4 → 0 ≤ l.getD k 0 ∧ l.getD k 0 ≤ 255) (hl : l.length ≤ 4) : ∀ k, k ≤ 3 → 0 ≤ acc (l.take k) ∧ acc (l.take k) < (256 : Int) ^ k
  | 0, _ => by simp [acc]
  | k + 1, hk => by
    have ih := acc_bd l h hl k (by omega)
    by_cases hkl : k < l.length
    · rw [acc_succ l k hkl, Int.pow_succ]
      have := h k (by omega)
      omega
    · rw [show l.take (k + 1) = l.take k by rw [List.take_of_length_le (by omega), List.take_of_length_le (by omega)], Int.pow_succ]
      omega
theorem or_byte (m x : Int) (h0 : 0 ≤ m) (h1 : m < 16777216) (h2 : 0 ≤ x) (h3 : x ≤ 255) : bits .or .u32 (m * 256 % 4294967296) x = m * 256 + x := by
  obtain ⟨M, rfl⟩ := Int.eq_ofNat_of_zero_le h0
  obtain ⟨X, rfl⟩ := Int.eq_ofNat_of_zero_le h2
  have e : ((M : Int) * 256 % 4294967296) = ((M * 256 : Nat) : Int) := by omega
  rw [e, u32_or_nat _ _ (by omega) (by omega)]
  have := Nat.shiftLeft_add_eq_or_of_lt (i := 8) (b := X) (by omega) M
  rw [Nat.shiftLeft_eq] at this
  rw [← this]; omega
theorem ret_i {k : IntKind} {a b : Int} (h : a = b) : Value.int k a = Value.int k b := by rw [h]
theorem or_acc (l : List Int) (k : Nat) (hk4 : k ≤ 3) (hlt : k < 4) (hl4 : l.length ≤ 4) (hB : ∀ k, k < 4 → 0 ≤ l.getD k 0 ∧ l.getD k 0 ≤ 255) {x : Int} (hx : x = l.getD k 0) (hkl : k < l.length) :
    bits .or .u32 (acc (l.take k) * 256 % 4294967296) x = acc (l.take (k + 1)) := by
  have hb := acc_bd l hB hl4 k hk4
  have hp : (256 : Int) ^ k ≤ 16777216 := by
    match k, hk4 with
    | 0, _ => decide
    | 1, _ => decide
    | 2, _ => decide
    | 3, _ => decide
  have h := hB k hlt
  rw [acc_succ l k hkl, hx, or_byte _ _ hb.1 (by omega) h.1 h.2]

set_option maxHeartbeats 400000 in
theorem aOf (a : Option Addr) (n cap : Nat) (xs : List Int) (w : World) (hn : xs.length = n) (hm : n ≤ 9223372036854775807) (hb : Bs w a xs) :
    Calls Try.prog 68 #[.slice a n cap] w fun e w' => e = .returned (.tuple #[.int .u32 (ofv xs), .int .i64 (ofe n)]) ∧ w = w' := by
  by_cases h1 : n < 4
  · have e1 : ofv xs = 0 := by unfold ofv; split <;> simp_all
    have e2 : ofe n = 3 := by simp [ofe, h1]
    rw [e1, e2]
    clear hb e1 e2
    have HN := Lib.hid hn; clear hn
    go_enter Try.func68, Try.ntmps68
    go_wp2
    go_ret2
    exact ⟨rfl, rfl⟩
  · by_cases h2 : 4 < n
    · have e1 : ofv xs = 0 := by unfold ofv; split <;> simp_all
      have e2 : ofe n = 2 := by simp [ofe, h1, h2]
      rw [e1, e2]
      clear hb e1 e2
      have HN := Lib.hid hn; clear hn
      go_enter Try.func68, Try.ntmps68
      go_wp2
      go_ret2
      exact ⟨rfl, rfl⟩
    · obtain rfl : n = 4 := by omega
      match xs, hn with
      | [x0, x1, x2, x3], _ =>
        obtain ⟨hc, hbd⟩ := hb
        rcases hc with hc | ⟨b, off, rfl, hc⟩
        · simp at hc
        · have hc' : ∀ k, k < 4 → w.cell? ⟨b, off + k, none⟩ = some (.int .u8 ([x0, x1, x2, x3].getD k 0)) := fun k hk => hc k hk
          have hbd' : ∀ k, k < 4 → 0 ≤ [x0, x1, x2, x3].getD k 0 ∧ [x0, x1, x2, x3].getD k 0 ≤ 255 := fun k hk => hbd k hk
          clear hc hbd h1 h2 hm
          have HC := Lib.hid hc'
          have HB := Lib.hid hbd'
          clear hc' hbd'
          generalize hl : [x0, x1, x2, x3] = l at *
          have hl4 : l.length = 4 := by subst hl; rfl
          have HL4 := Lib.hid hl4
          clear hl4
          go_enter Try.func68, Try.ntmps68
          go_wp2
          go_loop [4, 15] (fun t i => ∃ k : Nat, k ≤ 4 ∧ i = .int .i64 k ∧ t = .int .u32 (acc (l.take k))) (fun _ i => 4 - (intOf i).toNat)
          case atStart => exact ⟨0, by omega, rfl, rfl⟩
          case round =>
            obtain ⟨k, hk, rfl, rfl⟩ := hrel
            by_cases hlt : k < 4
            · have hck := HC.out k hlt
              have hbk := HB.out k hlt
              obtain ⟨x, hx⟩ : ∃ x, x = l.getD k 0 := ⟨_, rfl⟩
              rw [← hx] at hck hbk
              obtain ⟨hbk1, hbk2⟩ := hbk
              have HX := Lib.hid hx
              clear hx
              go_wp2
              go_round
              case rel => exact ⟨k + 1, by omega, by go_num, ret_i (or_acc l k (by omega) hlt (Nat.le_of_eq HL4.out) HB.out HX.out (by rw [HL4.out]; exact hlt))⟩
              case measure => simp [intOf]; omega
            · obtain rfl : k = 4 := by omega
              go_wp2
              go_ret2
              exact ⟨by rw [List.take_of_length_le (Nat.le_of_eq HL4.out)]; exact congrArg Ending.returned (congrArg Value.tuple (by subst hl; simp [acc, ofv, ofe])), rfl⟩

theorem rBytes (a : Int) (w : World) (h0 : 0 ≤ a) (h1 : a ≤ 4294967295) :
    Calls Try.prog 28 #[.int .u32 a] w fun e w' => e = .returned (.slice (some ⟨w.heap.size, 0, none⟩) 4 4) ∧ w.alloc (bytes4 a) = w' := by
  go_enter Try.func28, Try.ntmps28
  go_wp2
  go_ret
  refine ⟨rfl, ?_⟩
  rfl

theorem rOf (a : Option Addr) (n cap : Nat) (xs : List Int) (w : World) (hn : xs.length = n) (hm : n ≤ 9223372036854775807) (hb : Bs w a xs) :
    Calls Try.prog 59 #[.slice a n cap] w fun e w' => e = .returned (.tuple #[.int .u32 (ofv xs), .int .i64 (ofe n)]) ∧ Below w.heap.size w w' := by
  by_cases h1 : n < 4
  · have e1 : ofv xs = 0 := by unfold ofv; split <;> simp_all
    have e2 : ofe n = 3 := by simp [ofe, h1]
    rw [e1, e2]
    clear hb e1 e2
    have HN := Lib.hid hn; clear hn
    go_enter Try.func59, Try.ntmps59
    go_wp2
    go_ret2
    exact ⟨rfl, Below.refl _ _⟩
  · by_cases h2 : 4 < n
    · have e1 : ofv xs = 0 := by unfold ofv; split <;> simp_all
      have e2 : ofe n = 2 := by simp [ofe, h1, h2]
      rw [e1, e2]
      clear hb e1 e2
      have HN := Lib.hid hn; clear hn
      go_enter Try.func59, Try.ntmps59
      go_wp2
      go_ret2
      exact ⟨rfl, Below.refl _ _⟩
    · obtain rfl : n = 4 := by omega
      match xs, hn with
      | [x0, x1, x2, x3], _ =>
        obtain ⟨hc, hbd⟩ := hb
        rcases hc with hc | ⟨b, off, rfl, hc⟩
        · simp at hc
        · have c0 : w.cell? ⟨b, off, none⟩ = some (.int .u8 x0) := hc 0 (by simp)
          have c1 : w.cell? ⟨b, off + 1, none⟩ = some (.int .u8 x1) := hc 1 (by simp)
          have c2 : w.cell? ⟨b, off + 2, none⟩ = some (.int .u8 x2) := hc 2 (by simp)
          have c3 : w.cell? ⟨b, off + 3, none⟩ = some (.int .u8 x3) := hc 3 (by simp)
          obtain ⟨d0, d0'⟩ : 0 ≤ x0 ∧ x0 ≤ 255 := hbd 0 (by simp)
          obtain ⟨d1, d1'⟩ : 0 ≤ x1 ∧ x1 ≤ 255 := hbd 1 (by simp)
          obtain ⟨d2, d2'⟩ : 0 ≤ x2 ∧ x2 ≤ 255 := hbd 2 (by simp)
          obtain ⟨d3, d3'⟩ : 0 ≤ x3 ∧ x3 ≤ 255 := hbd 3 (by simp)
          clear hc hbd h1 h2 hm
          go_enter Try.func59, Try.ntmps59
          go_wp2
          go_quiet (fail)
          go_wp2
          go_ret2
          refine ⟨?_, bdrawn (Below.refl _ _) _⟩
          refine congrArg Ending.returned (congrArg Value.tuple ?_)
          have e : x0 * 16777216 + x1 * 65536 + x2 * 256 + x3 = ((x0 * 256 + x1) * 256 + x2) * 256 + x3 := by omega
          show #[Value.int .u32 (x0 * 16777216 + x1 * 65536 + x2 * 256 + x3), Value.int .i64 0] = _
          rw [e]; rfl

end Go.Proofs.Ytmcnanoamgkljaa
/- Contracts of package sum: words. -/
namespace Go.Proofs.Ytmcnanoamgkljaa
set_option linter.unusedVariables false
open Go.RowKit

theorem sJoin (x y : Int) (w : World) (h1 : 0 ≤ x ∧ x ≤ 65535) (h2 : 0 ≤ y ∧ y ≤ 65535) :
    Calls Try.prog 61 #[.int .u16 x, .int .u16 y] w fun e w' => e = .returned (.int .u16 (jn x y)) ∧ w = w' := by
  obtain ⟨a1, a2⟩ := h1
  obtain ⟨b1, b2⟩ := h2
  go_enter Try.func61, Try.ntmps61
  by_cases h : 65536 ≤ x + y
  · go_wp2
    go_ret
    refine ⟨ret_int ?_, rfl⟩
    unfold jn; rw [if_pos h]; omega
  · go_wp2
    go_ret
    refine ⟨ret_int ?_, rfl⟩
    unfold jn; rw [if_neg (by omega)]
theorem rJoin (x y : Int) (w : World) (h1 : 0 ≤ x ∧ x ≤ 65535) (h2 : 0 ≤ y ∧ y ≤ 65535) :
    Calls Try.prog 58 #[.int .u16 x, .int .u16 y] w fun e w' => e = .returned (.int .u16 (jn x y)) ∧ w = w' := by
  obtain ⟨a1, a2⟩ := h1
  obtain ⟨b1, b2⟩ := h2
  go_enter Try.func58, Try.ntmps58
  by_cases h : 65536 ≤ x + y
  · go_wp2
    go_ret
    refine ⟨ret_int ?_, rfl⟩
    unfold jn; rw [if_pos h]; omega
  · go_wp2
    go_ret
    refine ⟨ret_int ?_, rfl⟩
    unfold jn; rw [if_neg (by omega)]
theorem sWords (a : Option Addr) (len cap : Nat) (w : World) :
    Calls Try.prog 60 #[.slice a len cap] w fun e w' => e = .returned (.func (.func 67) #[] #[.pointer (some ⟨w.heap.size, 0, none⟩)]) ∧ w.alloc (.cells #[.slice a len cap] 30) = w' := by
  go_enter Try.func60, Try.ntmps60
  go_wp2
  go_ret
  exact ⟨rfl, rfl⟩
end Go.Proofs.Ytmcnanoamgkljaa
/- Contracts of package sum: the words of bytes, told one by one. -/
namespace Go.Proofs.Ytmcnanoamgkljaa
set_option linter.unusedVariables false
open Go.RowKit Go.Shelf
attribute [local go_sem] Oper.semAt_some

abbrev W16 := { x : Int // 0 ≤ x ∧ x ≤ 65535 }
/-- The first k words. -/
def words {xs : List Int} (h : IsB xs) (k : Nat) : List W16 := (List.range k).map fun j => ⟨wrd xs j, wrd_bd h j⟩
theorem words_succ {xs : List Int} (h : IsB xs) (k : Nat) : words h (k + 1) = words h k ++ [⟨wrd xs k, wrd_bd h k⟩] := by simp [words, List.range_succ]
/-- What a round keeps: what lay below n₀, and the box of the bytes. -/
def KpB (n₀ Bn : Nat) (W W' : World) : Prop := Below n₀ W W' ∧ ∀ v, W.cell? ⟨Bn, 0, none⟩ = some v → W'.cell? ⟨Bn, 0, none⟩ = some v
theorem kpB_t {n₀ Bn : Nat} {A B C : World} (h : KpB n₀ Bn A B) (k : KpB n₀ Bn B C) : KpB n₀ Bn A C := ⟨h.1.trans k.1, fun v e => k.2 v (h.2 v e)⟩
theorem kpB_b {n₀ Bn : Nat} {w : World} (hn : n₀ ≤ w.heap.size) (W : World) (l : Nat) (o o' : Obj) (hl : w.heap.size ≤ l) (h : W.heap[l]? = some o) (hc : o.isCells = false) (hw : o.isWalk = false) : KpB n₀ Bn W (W.putObj l o') :=
  ⟨belowK_b hn W l o o' hl h hc hw, fun v e => cell_kept e (grownBy_putObj' W l o') (fun r e' => by cases e'; exact ⟨o, h, hc⟩)⟩
theorem word_eq {xs : List Int} {h : IsB xs} {k : Nat} {v : Int} (hv : 0 ≤ v ∧ v ≤ 65535) (e : v = wrd xs k) : (⟨v, hv⟩ : W16) = ⟨wrd xs k, wrd_bd h k⟩ := Subtype.ext e
theorem words_length {xs : List Int} (h : IsB xs) (k : Nat) : (words h k).length = k := by simp [words]

set_option maxRecDepth 100000 in
set_option maxHeartbeats 2000000 in
theorem words1_in (F : Fence) (n : Nat) (h7 : F.fn 67) (hro : F.round = none) (hn : 1 ≤ n) (l Bn n₀ b off len cap N : Nat) (xs : List Int) (hx : xs.length = len) (hN : len ≤ 2 * N) (hN' : 2 * N ≤ len + 1) (hlen : len ≤ 1000000) (hb : b < n₀) (J Jx : List W16 → World → Prop) (hB : IsB xs)
    (hY : ∀ pre x W, J pre W → pre.length < N → YieldAt F (n - 1) Try.prog l #[.int .u16 x.1] W fun e W' =>
      (e = .returned (.bool true) ∧ J (pre ++ [x]) W' ∧ KpB n₀ Bn W W') ∨ (e = .returned (.bool false) ∧ Jx (pre ++ [x]) W'))
    (W : World) (hBn : W.cell? ⟨Bn, 0, none⟩ = some (.slice (some ⟨b, off, none⟩) len cap)) (hc : ∀ j, j < len → W.cell? ⟨b, off + j, none⟩ = some (.int .u8 (xs.getD j 0))) (h0 : J [] W) :
    CallsIn F n Try.prog 67 #[.func (.yield l) #[] #[], .pointer (some ⟨Bn, 0, none⟩)] W fun e W' => (∃ v, e = .returned v) ∧
      ((∃ ys, ys = words hB N ∧ J ys W') ∨ (∃ pre, (∃ k, k ≤ N ∧ pre = words hB k) ∧ Jx pre W')) := by
  have HX := Lib.hid hx
  have HC := Lib.hid hc
  have HBn := Lib.hid hBn
  clear hx hc
  refine callsIn_of_wp Try.func67 rfl h7 ?_ hro
  simp only [Try.ntmps67, List.size_toArray, List.length_cons, List.length_nil, Nat.reduceAdd, Nat.reduceSub, Array.replicate_succ, Array.replicate_zero, List.push_toArray, List.append_toArray, List.nil_append, List.cons_append]
  gi_wp2
  gi_loopw [3] (fun i wr => ∃ k j : Nat, j = 2 * k ∧ k ≤ N ∧ i = .int .i64 j ∧ J (words hB k) wr ∧ KpB n₀ Bn W wr)
    (fun i _ => len + 2 - (intOf i).toNat)
  case atStart => exact ⟨0, 0, rfl, by omega, rfl, h0, Below.refl _ _, fun _ h => h⟩
  case round =>
    obtain ⟨k, j, hj, hk, rfl, hJs, hnx⟩ := hrel
    clear hBn
    have HJ := Lib.hid hj
    have hBn : wr.cell? ⟨Bn, 0, none⟩ = some (.slice (some ⟨b, off, none⟩) len cap) := hnx.2 _ HBn.out
    by_cases hlt : j < len
    · have c1 : wr.cell? ⟨b, off + j, none⟩ = some (.int .u8 (xs.getD j 0)) := (hnx.1.cell (p := ⟨b, off + j, none⟩) hb).trans (HC.out j hlt)
      have b1 := getD_bd hB j
      have b2 := getD_bd hB (j + 1)
      have hkN : k < N := by omega
      clear hj
      by_cases hl2 : j + 1 < len
      · have c2 : wr.cell? ⟨b, off + (j + 1), none⟩ = some (.int .u8 (xs.getD (j + 1) 0)) := (hnx.1.cell (p := ⟨b, off + (j + 1), none⟩) hb).trans (HC.out (j + 1) hl2)
        have e1 : ((j : Int) + 1).toNat = j + 1 := by omega
        have ev : bits .or .u16 (xs.getD j 0 * 256) (xs.getD (j + 1) 0) = wrd xs k := by
          rw [or_hl b1 b2, wrd, ← HJ.out]
        have EV := Lib.hid ev
        have hbd := wrd_bd hB k
        rw [← ev] at hbd
        clear ev
        generalize hv1 : xs.getD j 0 = x1 at *
        generalize hv2 : xs.getD (j + 1) 0 = x2 at *
        clear hv1 hv2
        obtain ⟨fn, tmps, assign, body, hy, hR⟩ := hY _ ⟨bits .or .u16 (x1 * 256) x2, hbd⟩ wr hJs (by rw [words_length]; exact hkN)
        dsimp only at hy
        gi_wp2
        refine hR.mono ?_
        rintro e W3 (⟨rfl, hJ3, hk3⟩ | ⟨rfl, hJx3⟩)
        · gi_wp2
          go_roundw
          case rel => exact ⟨k + 1, j + 2, by have := HJ.out; omega, by omega, by go_num, by rw [words_succ, ← word_eq (h := hB) hbd EV.out]; exact hJ3, kpB_t hnx hk3⟩
          case measure => simp [intOf]; omega
        · gi_wp2
          refine bodyPost_ret (results_none rfl _ _ _) rfl ?_
          exact ⟨⟨_, rfl⟩, .inr ⟨_, ⟨k + 1, by omega, by rw [words_succ, ← word_eq (h := hB) hbd EV.out]⟩, hJx3⟩⟩
      · have ev : xs.getD j 0 * 256 = wrd xs k := by
          have e0 : xs.getD (j + 1) 0 = 0 := by
            rw [List.getD_eq_getElem?_getD, List.getElem?_eq_none (by rw [HX.out]; omega)]; rfl
          rw [wrd, ← HJ.out, e0]; omega
        have EV := Lib.hid ev
        have hbd := wrd_bd hB k
        rw [← ev] at hbd
        clear ev b2
        generalize hv1 : xs.getD j 0 = x1 at *
        clear hv1
        obtain ⟨fn, tmps, assign, body, hy, hR⟩ := hY _ ⟨x1 * 256, hbd⟩ wr hJs (by rw [words_length]; exact hkN)
        dsimp only at hy
        gi_wp2
        refine hR.mono ?_
        rintro e W3 (⟨rfl, hJ3, hk3⟩ | ⟨rfl, hJx3⟩)
        · gi_wp2
          go_roundw
          case rel => exact ⟨k + 1, j + 2, by have := HJ.out; omega, by omega, by go_num, by rw [words_succ, ← word_eq (h := hB) hbd EV.out]; exact hJ3, kpB_t hnx hk3⟩
          case measure => simp [intOf]; omega
        · gi_wp2
          refine bodyPost_ret (results_none rfl _ _ _) rfl ?_
          exact ⟨⟨_, rfl⟩, .inr ⟨_, ⟨k + 1, by omega, by rw [words_succ, ← word_eq (h := hB) hbd EV.out]⟩, hJx3⟩⟩
    · have hkN : k = N := by omega
      have HK := Lib.hid hkN
      clear hkN hj
      gi_wp2
      go_end0
      exact ⟨⟨_, rfl⟩, .inl ⟨_, rfl, by rw [← HK.out]; exact hJs⟩⟩

set_option maxRecDepth 100000 in
set_option maxHeartbeats 1000000 in
/-- .. without bytes: no round. -/
theorem words1_no (F : Fence) (n : Nat) (h7 : F.fn 67) (hro : F.round = none) (l Bn cap : Nat) (a : Option Addr) (J : List W16 → World → Prop) (W : World) (hBn : W.cell? ⟨Bn, 0, none⟩ = some (.slice a 0 cap)) (h0 : J [] W) :
    CallsIn F n Try.prog 67 #[.func (.yield l) #[] #[], .pointer (some ⟨Bn, 0, none⟩)] W fun e W' => (∃ v, e = .returned v) ∧ J [] W' := by
  refine callsIn_of_wp Try.func67 rfl h7 ?_ hro
  simp only [Try.ntmps67, List.size_toArray, List.length_cons, List.length_nil, Nat.reduceAdd, Nat.reduceSub, Array.replicate_succ, Array.replicate_zero, List.push_toArray, List.append_toArray, List.nil_append, List.cons_append]
  gi_wp2
  gi_loopw [3] (fun i wr => i = .int .i64 0 ∧ wr = W) (fun _ _ => 0)
  case atStart => exact ⟨rfl, rfl⟩
  case round =>
    obtain ⟨rfl, rfl⟩ := hrel
    gi_wp2
    go_end0
    exact ⟨⟨_, rfl⟩, h0⟩

/-- All the words of a slice of bytes, one by one; or the first k of them. -/
theorem words_stops (F : Fence) (n : Nat) (h7 : F.fn 67) (hro : F.round = none) (hn : 1 ≤ n) (Bn N : Nat) (a : Option Addr) (len cap : Nat) (xs : List Int) (hx : xs.length = len) (hN : len ≤ 2 * N) (hN' : 2 * N ≤ len + 1) (hlen : len ≤ 1000000)
    (w0 w : World) (hn₀ : Below w0.heap.size w0 w) (hBn : Bn < w.heap.size) (hc : w.cell? ⟨Bn, 0, none⟩ = some (.slice a len cap)) (hb : Bs w0 a xs) :
    SeqStopsK F n Try.prog 67 #[.pointer (some ⟨Bn, 0, none⟩)] (fun x : W16 => #[Value.int .u16 x.1]) (KpB w0.heap.size Bn) (fun ys => ys = words hb.2 N) (fun pre => ∃ k, k ≤ N ∧ pre = words hb.2 k) N w := fun l J Jx W hW _ _ hY h0 => by
  have hc' := (hW.cell (p := ⟨Bn, 0, none⟩) hBn).trans hc
  have hB := hb.2
  rcases hb.1 with rfl | ⟨b, off, rfl, hcs⟩
  · obtain rfl : len = 0 := by simpa using hx.symm
    obtain rfl : N = 0 := by omega
    exact (words1_no F n h7 hro l Bn cap a J W hc' h0).mono fun e W' ⟨he, hj⟩ => ⟨he, .inl ⟨_, rfl, hj⟩⟩
  · rcases Nat.eq_zero_or_pos len with rfl | hpos
    · obtain rfl : N = 0 := by omega
      exact (words1_no F n h7 hro l Bn cap _ J W hc' h0).mono fun e W' ⟨he, hj⟩ => ⟨he, .inl ⟨_, rfl, hj⟩⟩
    · have hbl : b < w0.heap.size := cell_lt (hcs 0 (by omega))
      exact words1_in F n h7 hro hn l Bn w0.heap.size b off len cap N xs hx hN hN' hlen hbl J Jx hB hY W hc'
        (fun j hj => ((hn₀.trans (hW.mono hn₀.size)).cell (p := ⟨b, off + j, none⟩) hbl).trans (hcs j (by omega))) h0
end Go.Proofs.Ytmcnanoamgkljaa
/- Contracts of package sum: the sum of bytes. -/
namespace Go.Proofs.Ytmcnanoamgkljaa
set_option linter.unusedVariables false
open Go.RowKit Go.Shelf
attribute [local go_sem] Oper.semAt_some

def tots : List W16 → Int
  | [] => 0
  | x :: l => x.1 + tots l
theorem tots_snoc (l : List W16) (x : W16) : tots (l ++ [x]) = tots l + x.1 := by
  induction l with
  | nil => simp [tots]
  | cons y l ih => simp only [List.cons_append, tots, ih]; omega
theorem tots_pos (l : List W16) : 0 ≤ tots l := by
  induction l with
  | nil => simp [tots]
  | cons y l ih => have := y.2.1; simp only [tots]; omega
theorem tots_words {xs : List Int} (h : IsB xs) (k : Nat) : tots (words h k) = tot (xs.take (2 * k)) := by
  induction k with
  | zero => simp [words, tots, tot]
  | succ k ih => rw [words_succ, tots_snoc, ih, tot_step]

set_option maxRecDepth 100000 in
set_option maxHeartbeats 2000000 in
theorem sOf_in (a : Option Addr) (len cap : Nat) (xs : List Int) (w : World) (hx : xs.length = len) (hlen : len ≤ 1000000) (hb : Bs w a xs) :
    CallsIn Fence.wide 5 Try.prog 48 #[.slice a len cap] w fun e w' => e = .returned (.int .u16 (ofs xs)) ∧ Below w.heap.size w w' := by
  obtain ⟨N, hN, hN'⟩ : ∃ N, len ≤ 2 * N ∧ 2 * N ≤ len + 1 := ⟨(len + 1) / 2, by omega, by omega⟩
  have HX := Lib.hid hx
  clear hx
  refine callsIn_of_wp_marks Try.func48 rfl trivial ?_ rfl
  simp only [Try.ntmps48, List.size_toArray, List.length_cons, List.length_nil, Nat.reduceAdd, Nat.reduceSub, Array.replicate_succ, Array.replicate_zero, List.push_toArray, List.append_toArray, List.nil_append, List.cons_append]
  gi_wp2_with (refine ⟨trivial, ?_⟩; gi_at_call 60; refine (callsIn_wide.2 (sWords _ _ _ _)).mono ?_; rintro e w' ⟨rfl, rfl⟩)
  have bS := Boxed.new w 65 (.int .u16 0)
  have bN := Boxed.new (w.alloc (.cells #[.int .u16 0] 65)) 30 (.slice a len cap)
  rw [World.size_alloc] at bN
  have hB0 : Below w.heap.size w ((w.alloc (.cells #[.int .u16 0] 65)).alloc (.cells #[.slice a len cap] 30)) := ((Below.refl _ w).alloc (Nat.le_refl _) _).alloc (by simp) _
  refine wpIn_rangeFunc_ownG rfl (by omega) (gf := 67) (lb := #[.pointer (some ⟨w.heap.size + 1, 0, none⟩)]) rfl trivial (enters_of Try.func67 (by kernel_rfl) rfl)
    (words_stops Fence.wide _ trivial rfl (by omega) (w.heap.size + 1) N a len cap xs HX.out hN hN' hlen w _ hB0 (by simp) bN.cell hb) kpB_t (kpB_b (by simp; omega)) (Below.refl _ _) (fun _ => rfl)
    (fun pre W => (W.cell? ⟨w.heap.size, 0, none⟩ = some (.int .u16 (nrm (tots pre))) ∧ W.frozen? ⟨w.heap.size, 0, none⟩ = false) ∧ Below w.heap.size w W)
    (fun _ _ _ => False)
    (OwnFrom.and (Own.from (fun s A B row hs hg hr => ⟨cell_kept hs.1 hg hr, (frozen_kept hs.1 hg hr).trans hs.2⟩) _) (ownFrom_below (Nat.le_refl _) (by simp; omega)))
    (fun _ _ _ _ _ hs _ _ => hs)
    ⟨⟨(bS.alloc _).cell, (bS.alloc _).frozen⟩, hB0⟩
    (fun x => { tmps := #[.slice a len cap, undef, .int .u16 0, .pointer (some ⟨w.heap.size, 0, none⟩), .int .u16 x.1, .slice a len cap, .func (.func 67) #[] #[.pointer (some ⟨w.heap.size + 1, 0, none⟩)], .int .u16 x.1, undef, undef, undef, undef, undef], defers := [] }) ?assign ?body ?done ?stop
  case assign =>
    intro l x W K hK
    gi_wp2
    exact hK
  case body =>
    rintro l pre x W ⟨⟨hc, hf⟩, hB⟩ _
    have b1 := nrm_bd (tots_pos pre)
    have b2 := x.2
    gi_wp2_with (refine ⟨trivial, ?_⟩; gi_at_call 61; refine (CallsIn.inRound l (callsIn_wide.2 (sJoin _ _ _ b1 b2))).mono ?_; rintro e w' ⟨rfl, rfl⟩)
    exact ⟨(KeepsOthers.setCell _ _ _).from _, ⟨(Below.refl w.heap.size W).setCell (p := ⟨w.heap.size, 0, none⟩) (Nat.le_refl _) _, fun v hv => by rw [World.cell?_setCell_other _ _ _ _ (by simp)]; exact hv⟩,
      ⟨by rw [tots_snoc, ← nrm_jn (tots_pos pre) x.2.1 x.2.2]; exact World.cell?_setCell_same' _ _ _ (by rw [hc]; rfl), by rw [World.frozen?_setCell]; exact hf⟩, hB.setCell (p := ⟨w.heap.size, 0, none⟩) (Nat.le_refl _) _⟩
  case done =>
    rintro D ys W hD rfl ⟨⟨hc0, _⟩, hB⟩ hK
    have e : nrm (tots (words hb.2 N)) = nrm (tot xs) := congrArg nrm ((tots_words hb.2 N).trans (tot_full xs (by rw [HX.out]; exact hN)))
    have hc : W.cell? ⟨w.heap.size, 0, none⟩ = some (.int .u16 (nrm (tot xs))) := hc0.trans (congrArg (fun t => some (Value.int .u16 t)) e)
    have b1 := nrm_bd (tot_pos hb.2)
    have en := not16 b1.1 b1.2
    have EN := Lib.hid en
    clear e en hc0
    gi_wp2
    refine ⟨by simp, .inl ⟨_, _, rfl, run_takeDeferred hK, ?_⟩⟩
    refine ⟨_, results_tmp rfl _ _ _, ?_, hB.trans (belowK_b (w := w) (Nat.le_refl _) W D _ _ (by simp at hD; omega) hK rfl rfl)⟩
    exact ret_int EN.out
  case stop =>
    rintro D c pre W _ _ h _
    exact h.elim
theorem sOf (a : Option Addr) (len cap : Nat) (xs : List Int) (w : World) (hx : xs.length = len) (hlen : len ≤ 1000000) (hb : Bs w a xs) :
    Calls Try.prog 48 #[.slice a len cap] w fun e w' => e = .returned (.int .u16 (ofs xs)) ∧ Below w.heap.size w w' :=
  (callsIn_wide (n := 5)).1 (sOf_in a len cap xs w hx hlen hb)

theorem sWhole (a : Option Addr) (len cap : Nat) (xs : List Int) (w : World) (hx : xs.length = len) (hlen : len ≤ 1000000) (hb : Bs w a xs) :
    Calls Try.prog 38 #[.slice a len cap] w fun e w' => e = .returned (.bool (ofs xs == 0)) ∧ Below w.heap.size w w' := by
  have HX := Lib.hid hx
  have HB := Lib.hid hb
  clear hx hb
  go_enter Try.func38, Try.ntmps38
  go_wp2_with (go_at_call 48; refine (sOf _ _ _ xs _ HX.out hlen HB.out).mono ?_; rintro e w' ⟨rfl, hb1⟩)
  go_ret
  exact ⟨rfl, hb1⟩
/-- A slice of bytes with a word at its head that may be written. -/
theorem sput (b off n cap : Nat) (v u1 u2 : Int) (w : World) (h0 : 0 ≤ v) (h1 : v ≤ 65535) (hn : 2 ≤ n)
    (c1 : w.cell? ⟨b, off, none⟩ = some (.int .u8 u1)) (c2 : w.cell? ⟨b, off + 1, none⟩ = some (.int .u8 u2)) (f1 : w.frozen? ⟨b, off, none⟩ = false) (f2 : w.frozen? ⟨b, off + 1, none⟩ = false) :
    Calls Try.prog 47 #[.slice (some ⟨b, off, none⟩) n cap, .int .u16 v] w fun e w' => e = .returned (.tuple #[]) ∧ (w.setCell ⟨b, off, none⟩ (.int .u8 (v / 256))).setCell ⟨b, off + 1, none⟩ (.int .u8 (v % 256)) = w' := by
  go_enter Try.func47, Try.ntmps47
  go_wp2
  go_end0
  exact ⟨rfl, rfl⟩
end Go.Proofs.Ytmcnanoamgkljaa
/- Contracts of package sum: a sum put into its place. -/
namespace Go.Proofs.Ytmcnanoamgkljaa
set_option linter.unusedVariables false
open Go.RowKit

def PutOk (k : Nat) (n : Nat) : Prop := k % 2 = 0 ∧ k + 2 ≤ n
/-- No place for a sum. -/
theorem sPut_no (a : Option Addr) (n cap : Nat) (at' : Int) (w : World) (hn : n ≤ 1000000) (h : at' < 0 ∨ (n : Int) - 2 < at' ∨ at' % 2 = 1) (h63 : -9223372036854775808 ≤ at' ∧ at' ≤ 9223372036854775807) :
    Calls Try.prog 26 #[.slice a n cap, .int .i64 at'] w fun e w' => e = .returned (.tuple #[.slice none 0 0, .int .i64 1]) ∧ w = w' := by
  by_cases h1 : at' < 0
  · clear h
    go_enter Try.func26, Try.ntmps26
    go_wp2
    go_ret2
    exact ⟨rfl, rfl⟩
  · by_cases h2 : (n : Int) - 2 < at'
    · clear h
      go_enter Try.func26, Try.ntmps26
      go_wp2
      go_ret2
      exact ⟨rfl, rfl⟩
    · have h3 : at' % 2 = 1 := by omega
      have h4 : (at' % 2 != 0) = true := by rw [h3]; rfl
      have h0 : 0 ≤ at' := by omega
      have H3 := Lib.hid h3
      clear h h1 h3
      go_enter Try.func26, Try.ntmps26
      go_wp2
      go_ret2
      exact ⟨rfl, rfl⟩

theorem sput_ob (g n cap k : Nat) (v : Int) (xs : List Int) (w : World) (hob : Ob w g xs) (hk : k + 2 ≤ xs.length) (h0 : 0 ≤ v) (h1 : v ≤ 65535) (hn : 2 ≤ n) :
    Calls Try.prog 47 #[.slice (some ⟨g, k, none⟩) n cap, .int .u16 v] w fun e w' => e = .returned (.tuple #[]) ∧ Ob w' g (putw xs k v) ∧ Below g w w' := by
  refine (sput g k n cap v _ _ w h0 h1 hn (hob.cell (k := k) (by omega)) (hob.cell (k := k + 1) (by omega)) (hob.frozen _) (hob.frozen _)).mono ?_
  rintro e w' ⟨rfl, rfl⟩
  exact ⟨rfl, (hob.set k _ (by omega)).set (k + 1) _ (by rw [List.length_set]; omega), ((Below.refl g w).setCell (p := ⟨g, k, none⟩) (Nat.le_refl _) _).setCell (p := ⟨g, k + 1, none⟩) (Nat.le_refl _) _⟩

theorem ob_after {w2 w3 : World} {g : Nat} {xs : List Int} (h : Ob w2 g xs) (hb : Below w2.drew.heap.size w2.drew w3) : Ob w3 g xs := Ob.below (w := w2.drew) h hb h.lt

set_option maxHeartbeats 2000000 in
theorem sPut_ok (a : Option Addr) (n cap k : Nat) (xs : List Int) (w : World) (hn : n ≤ 1000000) (hx : xs.length = n) (hb : Bs w a xs) (he : k % 2 = 0) (hk : k + 2 ≤ n) :
    Calls Try.prog 26 #[.slice a n cap, .int .i64 k] w fun e w' => ∃ g, e = .returned (.tuple #[.slice (some ⟨g, 0, none⟩) n n, .int .i64 0]) ∧ Ob w' g (putS xs k) ∧ w.heap.size ≤ g ∧ Below w.heap.size w w' := by
  have h4 : ((k : Int) % 2 != 0) = false := by rw [bne_eq_false_iff_eq]; omega
  have hmk := run_make_row' (P := Try.prog) 30 5 (.int .u8 0) 1 Try.underlying30 info8 rfl .i64 .i64 n (by omega) (by omega)
  have HE := Lib.hid he
  have HX := Lib.hid hx
  have HB := Lib.hid hb
  have HM := Lib.hid (Ob.made w n).heap
  have HN : Hid ((vb xs).length = Nat.min n n) := Lib.hid (by rw [vb_len, hx]; exact (Nat.min_self n).symm)
  have HS := Lib.hid (fun hp => vb_src (bs_below hb ((Below.refl _ w).alloc (Nat.le_refl _) (.cells (madeCells #[.int .u8 0] n) 5))) hp)
  have HF : Hid (0 + (vb xs).length ≤ (vb (List.replicate n 0)).length) := Lib.hid (by rw [vb_len, vb_len, List.length_replicate]; omega)
  have HP : Hid (splice (vb (List.replicate n 0)) 0 (vb xs) = vb xs) := Lib.hid (splice_vb _ _ (by rw [List.length_replicate, hx]))
  clear he hx hb
  go_enter Try.func26, Try.ntmps26
  go_wp2_with (with_reducible refine wpList_copy_splice rfl (.tmp 24) (.tmp 25) 30 30 rfl 5 Try.underlying30 infos8 (some ⟨w.heap.size, 0, none⟩) a n n n cap rfl rfl w.heap.size 0 (vb (List.replicate n 0)) 5 HM.out (vb xs) HN.out (fun hp => ⟨rfl, HS.out hp⟩) HF.out (vb_one xs) w.heap.size w ((Below.refl _ w).alloc (Nat.le_refl _) _) (Nat.le_refl _) ?_; intro w1 hg1 hb1)
  have ob : Ob w1 w.heap.size xs := Ob.of_heap (by rw [← HP.out]; exact hg1)
  have OB := Lib.hid ob
  clear hg1 ob
  go_wp2_with fail
  refine (sput_ob w.heap.size (n - k) (n - k) k 0 xs w1 OB.out (by rw [HX.out]; exact hk) (by omega) (by omega) (by omega)).mono ?_
  rintro e w2 ⟨rfl, ob2, hb2⟩
  have OB2 : Hid (Ob w2 w.heap.size (put0 xs k)) := Lib.hid ob2
  have HB2 := Lib.hid (hb1.trans hb2)
  clear hb1 hb2 ob2
  have HL : Hid ((put0 xs k).length = n) := Lib.hid ((put0_len xs k).trans HX.out)
  have HI := Lib.hid (isB_put0 HB.out.2 k)
  have HO := Lib.hid (ofs_bd HI.out)
  go_wp2_with fail
  go_region_with (first
    | (go_at_call 48; refine (sOf _ n n (put0 xs k) _ HL.out hn (Ob.bs (by first | exact OB2.out | exact OB2.out.drewN _) HI.out)).mono ?_; rintro e w3 ⟨rfl, hb3⟩)
    | (go_at_call 47; refine (sput_ob w.heap.size (n - k) (n - k) k (ofs (put0 xs k)) (put0 xs k) _ (ob_after OB2.out hb3) (by rw [HL.out]; exact hk) HO.out.1 HO.out.2 (by omega)).mono ?_; rintro e w4 ⟨rfl, ob4, hb4⟩))
  all_goals
    go_wp2
    go_ret2
    exact ⟨w.heap.size, rfl, ob4, Nat.le_refl _, (HB2.out.drew.trans (hb3.mono HB2.out.size)).trans hb4⟩
/-- Put, whatever the place. -/
theorem sPut (a : Option Addr) (n cap : Nat) (at' : Int) (xs : List Int) (w : World) (hn : n ≤ 1000000) (hx : xs.length = n) (hb : Bs w a xs) (h63 : -9223372036854775808 ≤ at' ∧ at' ≤ 9223372036854775807) :
    (∃ k : Nat, at' = k ∧ PutOk k n ∧ Calls Try.prog 26 #[.slice a n cap, .int .i64 at'] w fun e w' => ∃ g, e = .returned (.tuple #[.slice (some ⟨g, 0, none⟩) n n, .int .i64 0]) ∧ Ob w' g (putS xs k) ∧ w.heap.size ≤ g ∧ Below w.heap.size w w') ∨
    ((at' < 0 ∨ (n : Int) - 2 < at' ∨ at' % 2 = 1) ∧ Calls Try.prog 26 #[.slice a n cap, .int .i64 at'] w fun e w' => e = .returned (.tuple #[.slice none 0 0, .int .i64 1]) ∧ w = w') := by
  by_cases h : at' < 0 ∨ (n : Int) - 2 < at' ∨ at' % 2 = 1
  · exact .inr ⟨h, sPut_no a n cap at' w hn h h63⟩
  · obtain ⟨k, rfl⟩ := Int.eq_ofNat_of_zero_le (a := at') (by omega)
    exact .inl ⟨k, rfl, ⟨by omega, by omega⟩, sPut_ok a n cap k xs w hn hx hb (by omega) (by omega)⟩
end Go.Proofs.Ytmcnanoamgkljaa
/- Contracts of the document's own answers for sums (stolonref02): the sum. -/
namespace Go.Proofs.Ytmcnanoamgkljaa
set_option linter.unusedVariables false
open Go.RowKit

set_option maxHeartbeats 1000000 in
theorem rOf2 (a : Option Addr) (len cap : Nat) (xs : List Int) (w : World) (hx : xs.length = len) (hlen : len ≤ 1000000) (hb : Bs w a xs) :
    Calls Try.prog 40 #[.slice a len cap] w fun e w' => e = .returned (.int .u16 (ofs xs)) ∧ w = w' := by
  obtain ⟨N, hN, hN'⟩ : ∃ N, len ≤ 2 * N ∧ 2 * N ≤ len + 1 := ⟨(len + 1) / 2, by omega, by omega⟩
  have HX := Lib.hid hx
  have HB := Lib.hid hb
  have hB : IsB xs := hb.2
  clear hx hb
  go_enter Try.func40, Try.ntmps40
  go_wp2_with fail
  go_loop [3, 4] (fun s i => ∃ k j : Nat, j = 2 * k ∧ k ≤ N ∧ i = .int .i64 j ∧ s = .int .u16 (nrm (tot (xs.take (2 * k))))) (fun _ i => len + 2 - (intOf i).toNat)
  case atStart => exact ⟨0, 0, rfl, by omega, rfl, by simp [tot, nrm]⟩
  case round =>
    obtain ⟨k, j, hj, hk, rfl, rfl⟩ := hrel
    have HJ := Lib.hid hj
    have hs := nrm_bd (tot_pos (isB_take hB (2 * k)))
    by_cases hlt : j < len
    · have hkN : k < N := by omega
      clear hj
      obtain ⟨b, off, ha, hc⟩ : ∃ b off, a = some ⟨b, off, none⟩ ∧ ∀ k, k < xs.length → w.cell? ⟨b, off + k, none⟩ = some (.int .u8 (xs.getD k 0)) := by
        rcases HB.out.1 with e | e
        · have := HX.out; rw [e] at this; simp at this; omega
        · exact e
      subst ha
      have c1 := hc j (by rw [HX.out]; exact hlt)
      have b1 := getD_bd hB j
      have HS := Lib.hid (nrm_step hB k)
      by_cases hl2 : j + 1 < len
      · have c2 := hc (j + 1) (by rw [HX.out]; exact hl2)
        have b2 := getD_bd hB (j + 1)
        have e1 : ((j : Int) + 1).toNat = j + 1 := by omega
        have ev : xs.getD j 0 * 256 + xs.getD (j + 1) 0 = wrd xs k := by rw [wrd, ← HJ.out]
        have EV := Lib.hid ev
        generalize nrm (tot (xs.take (2 * k))) = s at *
        generalize xs.getD j 0 = x1 at *
        generalize xs.getD (j + 1) 0 = x2 at *
        clear ev hc
        go_wp2_with (go_at_call 58; refine (rJoin s (x1 * 256 + x2) _ hs (by omega)).mono ?_; rintro e w' ⟨rfl, rfl⟩)
        go_round
        case rel => exact ⟨k + 1, j + 2, by have := HJ.out; omega, by omega, by go_num, by rw [EV.out, HS.out]⟩
        case measure => simp [intOf]; omega
      · have ev : xs.getD j 0 * 256 = wrd xs k := by
          have e0 : xs.getD (j + 1) 0 = 0 := by
            rw [List.getD_eq_getElem?_getD, List.getElem?_eq_none (by rw [HX.out]; omega)]; rfl
          rw [wrd, ← HJ.out, e0]; omega
        have EV := Lib.hid ev
        generalize nrm (tot (xs.take (2 * k))) = s at *
        generalize xs.getD j 0 = x1 at *
        clear ev hc
        go_wp2_with (go_at_call 58; refine (rJoin s (x1 * 256) _ hs (by omega)).mono ?_; rintro e w' ⟨rfl, rfl⟩)
        go_round
        case rel => exact ⟨k + 1, j + 2, by have := HJ.out; omega, by omega, by go_num, by rw [EV.out, HS.out]⟩
        case measure => simp [intOf]; omega
    · have hkN : k = N := by omega
      have hf : nrm (tot (xs.take (2 * k))) = nrm (tot xs) := by rw [tot_full xs (by rw [HX.out]; omega)]
      have HF := Lib.hid hf
      generalize nrm (tot (xs.take (2 * k))) = s at *
      have HK := Lib.hid hkN
      clear hkN hj hf
      go_wp2_with fail
      go_ret
      exact ⟨ret_int (by rw [HF.out]; rfl), rfl⟩
end Go.Proofs.Ytmcnanoamgkljaa
/- Contracts of the document's own answers for sums (stolonref02): a sum put into its place. -/
namespace Go.Proofs.Ytmcnanoamgkljaa
set_option linter.unusedVariables false
open Go.RowKit

theorem rPut_no (a : Option Addr) (n cap : Nat) (at' : Int) (w : World) (hn : n ≤ 1000000) (h : at' < 0 ∨ (n : Int) - 2 < at' ∨ at' % 2 = 1) (h63 : -9223372036854775808 ≤ at' ∧ at' ≤ 9223372036854775807) :
    Calls Try.prog 29 #[.slice a n cap, .int .i64 at'] w fun e w' => e = .returned (.tuple #[.slice none 0 0, .int .i64 1]) ∧ w = w' := by
  by_cases h1 : at' < 0
  · clear h
    go_enter Try.func29, Try.ntmps29
    go_wp2
    go_ret2
    exact ⟨rfl, rfl⟩
  · by_cases h3 : at' % 2 = 1
    · have h4 : (at' % 2 == 1) = true := by rw [h3]; rfl
      have h0 : 0 ≤ at' := by omega
      have H3 := Lib.hid h3
      clear h h1 h3
      go_enter Try.func29, Try.ntmps29
      go_wp2
      go_ret2
      exact ⟨rfl, rfl⟩
    · have h4 : (at' % 2 == 1) = false := by rw [beq_eq_false_iff_ne]; exact h3
      have h2 : (n : Int) - 2 < at' := by omega
      have h0 : 0 ≤ at' := by omega
      clear h h1 h3
      go_enter Try.func29, Try.ntmps29
      go_wp2
      go_ret2
      exact ⟨rfl, rfl⟩

theorem own_next {w : World} {B k : Nat} {P : List Int} {v : Value} {x : Int} (hv : vb (P.take k) ++ [.int .u8 (P.getD k 0)] = vb (P.take (k + 1))) (hx : P.getD k 0 = x) (h : w.ownsRow B 5 1 v (k + 1) (vb (P.take k) ++ [.int .u8 x])) :
    w.ownsRow B 5 1 v (k + 1) (vb (P.take (k + 1))) := by
  rw [← hv, hx]; exact h
theorem div256 {s : Int} (h0 : 0 ≤ s) (h1 : s ≤ 65535) : IntKind.u16.wrap (s.tdiv 256) % 256 = s / 256 := by
  rw [Int.tdiv_eq_ediv_of_nonneg h0, wraps_u16 _ (by omega) (by omega)]; omega
set_option maxHeartbeats 2000000 in
theorem rPutO_ok (a : Option Addr) (n cap q : Nat) (xs : List Int) (w : World) (hn : n ≤ 1000000) (hx : xs.length = n) (hb : Bs w a xs) (he : q % 2 = 0) (hk : q + 2 ≤ n) :
    Calls Try.prog 29 #[.slice a n cap, .int .i64 q] w fun e w' => ∃ g cap', e = .returned (.tuple #[.slice (some ⟨g, 0, none⟩) n cap', .int .i64 0]) ∧ Og w' g (putS xs q) ∧ w.heap.size ≤ g ∧ Below w.heap.size w w' ∧ Ow w' w.heap.size (some ⟨g, 0, none⟩) n cap' (putS xs q) := by
  have h4 : ((q : Int) % 2 == 1) = false := by rw [beq_eq_false_iff_ne]; omega
  obtain ⟨b, off, ha, hc⟩ : ∃ b off, a = some ⟨b, off, none⟩ ∧ ∀ k, k < xs.length → w.cell? ⟨b, off + k, none⟩ = some (.int .u8 (xs.getD k 0)) := by
    rcases hb.1 with e | e
    · rw [e] at hx; simp at hx; omega
    · exact e
  subst ha
  have hbl : b < w.heap.size := cell_lt (hc 0 (by omega))
  obtain ⟨P, hP⟩ : ∃ P, P = put0 xs q := ⟨_, rfl⟩
  have HI : Hid (IsB P) := Lib.hid (by rw [hP]; exact isB_put0 hb.2 q)
  have HL : Hid (P.length = n) := Lib.hid (by rw [hP, put0_len, hx])
  have HZ : Hid (P.getD q 0 = 0 ∧ P.getD (q + 1) 0 = 0 ∧ ∀ k, k ≠ q → k ≠ q + 1 → P.getD k 0 = xs.getD k 0) := Lib.hid (by
    rw [hP]
    exact ⟨putw_getD_0 0 (by omega), putw_getD_1 0 (by omega), fun k h1 h2 => putw_getD_ne 0 h1 h2⟩)
  have HS : Hid (putS xs q = putw P q (ofs P)) := Lib.hid (by rw [hP]; rfl)
  have HC := Lib.hid hc
  have HX := Lib.hid hx
  obtain ⟨i0, hi, hz0, hz1, hz2⟩ := info_parts info8
  clear he hx hb hc hP
  go_enter Try.func29, Try.ntmps29
  go_wp2_with fail
  go_loopw [6, 7] (fun v i wr => ∃ k : Nat, k ≤ n ∧ i = .int .i64 k ∧ wr.ownsRow w.heap.size 5 1 v k (vb (P.take k)) ∧ Below w.heap.size w wr) (fun _ i _ => n - (intOf i).toNat)
  case atStart => exact ⟨0, by omega, rfl, ⟨rfl, .inl ⟨rfl, rfl⟩⟩, Below.refl _ _⟩
  case round =>
    obtain ⟨k, hkn, rfl, hown, hbr⟩ := hrel
    by_cases hlt : k < n
    · have hsz := hbr.size
      have HV := Lib.hid (vb_snoc P k (by rw [HL.out]; exact hlt))
      by_cases h1 : k = q
      · have e1 : ((k : Int) == (q : Int)) = true := by simp [h1]
        have HE1 : Hid (P.getD k 0 = 0) := Lib.hid (by rw [h1]; exact HZ.out.1)
        clear h1
        go_wp2_with (at_builtin; refine wpList_append_own _ rfl (.tmp 38) (.tmp 39) 30 rfl w.heap.size 5 i0 (.int .u8 0) 1 1 Try.underlying30 hi hz0 hz1 hz2 rfl (by decide) _ _ _ rfl (hown.alloc _) ⟨wr.heap.size, 0, none⟩ 1 1 [.int .u8 0] rfl rfl (cell_one_new _ _ _) (by simp [Value.oneCell']) (by unfold maxLen; omega) (by omega) (by simp; omega) ?_; intro v' w1 hown' hgrow _)
        have hB1 := app_below hbr hsz hown hgrow
        have HG := Lib.hid hgrow
        clear hgrow
        go_wp2_with fail
        go_roundw
        case rel => exact ⟨k + 1, by omega, by go_num, own_next HV.out HE1.out hown', hB1⟩
        case measure => simp [intOf]; omega
      · by_cases h2 : k = q + 1
        · have e1 : ((k : Int) == (q : Int)) = false := by rw [beq_eq_false_iff_ne]; omega
          have e2 : ((k : Int) == (q : Int) + 1) = true := by rw [beq_iff_eq]; omega
          have HE1 : Hid (P.getD k 0 = 0) := Lib.hid (by rw [h2]; exact HZ.out.2.1)
          clear h1 h2
          go_wp2_with (at_builtin; refine wpList_append_own _ rfl (.tmp 38) (.tmp 39) 30 rfl w.heap.size 5 i0 (.int .u8 0) 1 1 Try.underlying30 hi hz0 hz1 hz2 rfl (by decide) _ _ _ rfl (hown.alloc _) ⟨wr.heap.size, 0, none⟩ 1 1 [.int .u8 0] rfl rfl (cell_one_new _ _ _) (by simp [Value.oneCell']) (by unfold maxLen; omega) (by omega) (by simp; omega) ?_; intro v' w1 hown' hgrow _)
          have hB1 := app_below hbr hsz hown hgrow
          have HG := Lib.hid hgrow
          clear hgrow
          go_wp2_with fail
          go_roundw
          case rel => exact ⟨k + 1, by omega, by go_num, own_next HV.out HE1.out hown', hB1⟩
          case measure => simp [intOf]; omega
        · have e1 : ((k : Int) == (q : Int)) = false := by rw [beq_eq_false_iff_ne]; omega
          have e2 : ((k : Int) == (q : Int) + 1) = false := by rw [beq_eq_false_iff_ne]; omega
          have HE1 : Hid (P.getD k 0 = xs.getD k 0) := Lib.hid (HZ.out.2.2 k h1 h2)
          have c1 : wr.cell? ⟨b, off + k, none⟩ = some (.int .u8 (xs.getD k 0)) := (hbr.cell (p := ⟨b, off + k, none⟩) hbl).trans (HC.out k (by rw [HX.out]; exact hlt))
          have i1 : (k : Int) < (n : Int) := by omega
          generalize xs.getD k 0 = x at *
          clear h1 h2
          go_wp2_with (at_builtin; refine wpList_append_own _ rfl (.tmp 41) (.tmp 46) 30 rfl w.heap.size 5 i0 (.int .u8 0) 1 1 Try.underlying30 hi hz0 hz1 hz2 rfl (by decide) _ _ _ rfl (hown.alloc _) ⟨wr.heap.size, 0, none⟩ 1 1 [.int .u8 x] rfl rfl (cell_one_new _ _ _) (by simp [Value.oneCell']) (by unfold maxLen; omega) (by omega) (by simp; omega) ?_; intro v' w1 hown' hgrow _)
          have hB1 := app_below hbr hsz hown hgrow
          have HG := Lib.hid hgrow
          clear hgrow
          go_wp2_with fail
          go_roundw
          case rel => exact ⟨k + 1, by omega, by go_num, own_next HV.out HE1.out hown', hB1⟩
          case measure => simp [intOf]; omega
    · obtain rfl : k = n := by omega
      have hP : P.take k = P := List.take_of_length_le (by rw [HL.out]; exact Nat.le_refl _)
      rw [hP] at hown
      obtain ⟨g, cap', rfl, hgB, hog⟩ := Og.owned hown (by omega)
      have HOG := Lib.hid hog
      have HOWN := Lib.hid hown
      clear hP hown hog
      have c1 := HOG.out.cell (k := q) (by rw [HL.out]; omega)
      have c2 := HOG.out.cell (k := q + 1) (by rw [HL.out]; omega)
      have f1 := HOG.out.frozen q
      have f2 := HOG.out.frozen (q + 1)
      have e1 : ((q : Int) + 1).toNat = q + 1 := by omega
      obtain ⟨s, hs⟩ : ∃ s, s = ofs P := ⟨_, rfl⟩
      have bs := ofs_bd HI.out
      rw [← hs] at bs
      have HSS := Lib.hid hs
      clear hs
      go_wp2_with (go_at_call 40; refine (rOf2 _ k cap' P _ HL.out hn (HOG.out.bs HI.out)).mono ?_; rintro e w' ⟨rfl, rfl⟩; rw [← HSS.out])
      go_ret2
      refine ⟨g, cap', rfl, ?_, hgB, (hbr.setCell (p := ⟨g, q, none⟩) hgB _).setCell (p := ⟨g, q + 1, none⟩) hgB _, ?_⟩
      · rw [HS.out, ← HSS.out, div256 bs.1 bs.2]
        exact (HOG.out.set q (s / 256) (by rw [HL.out]; omega)).set (q + 1) (s % 256) (by rw [List.length_set, HL.out]; omega)
      · refine ⟨?_, by rw [putS_len]; exact HX.out⟩
        rw [HS.out, ← HSS.out, div256 bs.1 bs.2]
        have h1 := ((HOWN.out.stored q (.int .u8 (s / 256))).1.stored (q + 1) (.int .u8 (s % 256))).1
        unfold putw
        rw [vb, List.map_set, List.map_set]
        exact h1
theorem rPut_ok (a : Option Addr) (n cap q : Nat) (xs : List Int) (w : World) (hn : n ≤ 1000000) (hx : xs.length = n) (hb : Bs w a xs) (he : q % 2 = 0) (hk : q + 2 ≤ n) :
    Calls Try.prog 29 #[.slice a n cap, .int .i64 q] w fun e w' => ∃ g cap', e = .returned (.tuple #[.slice (some ⟨g, 0, none⟩) n cap', .int .i64 0]) ∧ Og w' g (putS xs q) ∧ w.heap.size ≤ g ∧ Below w.heap.size w w' :=
  (rPutO_ok a n cap q xs w hn hx hb he hk).mono fun e w' ⟨g, cap', h1, h2, h3, h4, _⟩ => ⟨g, cap', h1, h2, h3, h4⟩
/-- Put, as the document has it. -/
theorem rPut (a : Option Addr) (n cap : Nat) (at' : Int) (w : World) (xs : List Int) (hn : n ≤ 1000000) (hx : xs.length = n) (hb : Bs w a xs) (k : Nat) (e : at' = k) (he : k % 2 = 0) (hk : k + 2 ≤ n) :
    Calls Try.prog 29 #[.slice a n cap, .int .i64 at'] w fun e w' => ∃ g cap', e = .returned (.tuple #[.slice (some ⟨g, 0, none⟩) n cap', .int .i64 0]) ∧ Og w' g (putS xs k) ∧ w.heap.size ≤ g ∧ Below w.heap.size w w' := by
  subst e; exact rPut_ok a n cap k xs w hn hx hb he hk
end Go.Proofs.Ytmcnanoamgkljaa
/- The document's own answer to whether two slices of bytes are the same (stolonref01). -/
namespace Go.Proofs.Ytmcnanoamgkljaa
set_option linter.unusedVariables false
open Go.RowKit

/-- Two rows of bytes are the same. -/
def SameB (xs ys : List Int) : Bool := decide (xs = ys)

theorem rSame0 (a b : Option Addr) (c d : Nat) (w : World) :
    Calls Try.prog 17 #[.slice a 0 c, .slice b 0 d] w fun e w' => e = .returned (.bool true) ∧ Below w.heap.size w w' := by
  go_enter Try.func17, Try.ntmps17
  go_wp2
  refine wp_loop_rounds 1 ?_
  rw [rounds_succ]
  go_wp2
  go_ret
  exact ⟨rfl, Below.refl _ _⟩
theorem rSameNe (a b : Option Addr) (n m c d : Nat) (w : World) (h : n ≠ m) :
    Calls Try.prog 17 #[.slice a n c, .slice b m d] w fun e w' => e = .returned (.bool false) ∧ Below w.heap.size w w' := by
  have hne : ((n : Int) != (m : Int)) = true := by rw [bne_iff_ne]; omega
  have HN := Lib.hid h
  clear h
  go_enter Try.func17, Try.ntmps17
  go_wp2
  go_ret
  exact ⟨rfl, Below.refl _ _⟩

def PreEq (xs ys : List Int) (k : Nat) : Prop := ∀ j, j < k → xs.getD j 0 = ys.getD j 0

theorem pre_step {xs ys : List Int} {k : Nat} (h : PreEq xs ys k) (e : xs.getD k 0 = ys.getD k 0) : PreEq xs ys (k + 1) := by
  intro j hj
  rcases Nat.lt_succ_iff_lt_or_eq.1 hj with hj | rfl
  · exact h j hj
  · exact e
theorem ext_getD {xs ys : List Int} {n : Nat} (hx : xs.length = n) (hy : ys.length = n) (h : PreEq xs ys n) : xs = ys := by
  apply List.ext_getElem (hx.trans hy.symm)
  intro i h1 h2
  have := h i (by omega)
  simpa [List.getD_eq_getElem?_getD, h1, h2] using this

set_option maxHeartbeats 1000000 in
theorem rSame1 (b1 o1 b2 o2 n c d : Nat) (xs ys : List Int) (w : World) (hx : xs.length = n) (hy : ys.length = n) (hm : n ≤ 9223372036854775807)
    (h1 : ∀ k, k < n → w.cell? ⟨b1, o1 + k, none⟩ = some (.int .u8 (xs.getD k 0))) (h2 : ∀ k, k < n → w.cell? ⟨b2, o2 + k, none⟩ = some (.int .u8 (ys.getD k 0))) :
    Calls Try.prog 17 #[.slice (some ⟨b1, o1, none⟩) n c, .slice (some ⟨b2, o2, none⟩) n d] w fun e w' => e = .returned (.bool (SameB xs ys)) ∧ Below w.heap.size w w' := by
  have hne : ((n : Int) != (n : Int)) = false := by simp
  have HX := Lib.hid hx
  have HY := Lib.hid hy
  have H1 := Lib.hid h1
  have H2 := Lib.hid h2
  clear hx hy h1 h2
  go_enter Try.func17, Try.ntmps17
  go_wp2
  go_loopw [5] (fun i wr => ∃ k q : Nat, k ≤ n ∧ i = .int .i64 k ∧ PreEq xs ys k ∧ wr = w.drewN q) (fun i _ => n - (intOf i).toNat)
  case atStart => exact ⟨0, 0, by omega, rfl, fun j hj => absurd hj (by omega), rfl⟩
  case round =>
    obtain ⟨k, q, hk, rfl, hpre, rfl⟩ := hrel
    have HP := Lib.hid hpre
    clear hpre
    by_cases hlt : k < n
    · have c1 : ∀ q, (w.drewN q).cell? ⟨b1, o1 + k, none⟩ = some (.int .u8 (xs.getD k 0)) := fun q => H1.out k hlt
      have c2 : ∀ q, (w.drewN q).cell? ⟨b2, o2 + k, none⟩ = some (.int .u8 (ys.getD k 0)) := fun q => H2.out k hlt
      have i1 : (0 : Int) ≤ (k : Int) := by omega
      have i2 : (k : Int) < (n : Int) := by omega
      generalize hxk : xs.getD k 0 = x at *
      generalize hyk : ys.getD k 0 = y at *
      have HXK := Lib.hid hxk
      have HYK := Lib.hid hyk
      clear hxk hyk
      by_cases hxy : x = y
      · have hb : ((x : Int) != y) = false := by simp [hxy]
        have HXY := Lib.hid hxy
        clear hxy
        go_wp2
        go_quiet (fail)
        go_wp2
        go_roundw
        case rel => exact ⟨k + 1, _, by omega, by go_num, pre_step HP.out (HXK.out.trans (HXY.out.trans HYK.out.symm)), rfl⟩
        case measure => simp [intOf]; omega
      · have hb : ((x : Int) == y) = false := by simp [hxy]
        have hb' : ((x : Int) != y) = true := by simp [hxy]
        have hfin : SameB xs ys = false := by
          unfold SameB
          rw [decide_eq_false_iff_not]
          intro e; subst e; exact hxy (HXK.out.symm.trans HYK.out)
        have HF := Lib.hid hfin
        clear hxy hfin
        go_wp2
        go_quiet (fail)
        go_wp2
        go_ret
        exact ⟨congrArg (fun b => Ending.returned (Value.bool b)) HF.out.symm, bdrawn (bdrawn (Below.refl _ _) _) _⟩
    · obtain rfl : k = n := by omega
      have hfin : SameB xs ys = true := by
        unfold SameB
        rw [decide_eq_true_eq]
        exact ext_getD HX.out HY.out HP.out
      have HF := Lib.hid hfin
      clear hfin
      go_wp2
      go_ret
      exact ⟨congrArg (fun b => Ending.returned (Value.bool b)) HF.out.symm, bdrawn (Below.refl _ _) _⟩

/-- Two slices of bytes, whatever they are. -/
theorem rSame (a b : Option Addr) (n m c d : Nat) (xs ys : List Int) (w : World) (hx : xs.length = n) (hy : ys.length = m) (hm : n ≤ 9223372036854775807) (h1 : Bs w a xs) (h2 : Bs w b ys) :
    Calls Try.prog 17 #[.slice a n c, .slice b m d] w fun e w' => e = .returned (.bool (SameB xs ys)) ∧ Below w.heap.size w w' := by
  by_cases hnm : n = m
  · subst hnm
    rcases h1.1 with rfl | ⟨b1, o1, rfl, c1⟩
    · obtain rfl : n = 0 := by simpa using hx.symm
      obtain rfl : ys = [] := List.eq_nil_of_length_eq_zero hy
      exact rSame0 a b c d w
    · rcases h2.1 with rfl | ⟨b2, o2, rfl, c2⟩
      · obtain rfl : n = 0 := by simpa using hy.symm
        obtain rfl : xs = [] := List.eq_nil_of_length_eq_zero hx
        exact rSame0 _ b c d w
      · exact rSame1 b1 o1 b2 o2 n c d xs ys w hx hy hm (fun k hk => c1 k (by omega)) (fun k hk => c2 k (by omega))
  · have e : SameB xs ys = false := by
      unfold SameB
      rw [decide_eq_false_iff_not]
      intro e; subst e; omega
    rw [e]
    exact rSameNe a b n m c d w hnm
end Go.Proofs.Ytmcnanoamgkljaa
/- What the laws' proofs share: how integers and slices of bytes that come in are read. -/
namespace Go.Proofs.Ytmcnanoamgkljaa
set_option linter.unusedVariables false
open Go.ChangeShapes Go.WideShapes Go.ChangeAt Go.RowKit

theorem own : ownKnob Try.prog.godebug = none := by kernel_rfl
theorem laidOut : laidOutB Try.prog = true := by kernel_rfl

/-- A slice of integers that came in: nil; or a row of 'cap' cells, the first 'len' its elements. -/
def IsRow (k : IntKind) (w : World) (a : Option Addr) (len cap : Nat) (zs : List Int) : Prop :=
  (a = none ∧ len = 0 ∧ cap = 0 ∧ zs = []) ∨
  ∃ x, a = some x ∧ len ≤ cap ∧ cap ≤ maxLen ∧ zs.length = cap ∧ (∀ i, i < zs.length → w.cell? (x.add i) = some (.int k (zs.getD i 0))) ∧ ∀ n ∈ zs, (Lit.int k n).wf = true

theorem u32_bd {a : Int} (h : (Lit.int .u32 a).wf = true) : 0 ≤ a ∧ a ≤ 4294967295 := by
  have := bounds_u32 h; omega
theorem u16_bd {a : Int} (h : (Lit.int .u16 a).wf = true) : 0 ≤ a ∧ a ≤ 65535 := by
  have := bounds_u16 h; omega
theorem i64_bd {a : Int} (h : (Lit.int .i64 a).wf = true) : -9223372036854775808 ≤ a ∧ a ≤ 9223372036854775807 := by
  have := bounds_i64 h; omega
theorem u8_bd {a : Int} (h : (Lit.int .u8 a).wf = true) : 0 ≤ a ∧ a ≤ 255 := by
  have := bounds_u8 h; omega

theorem bs_of_row {w : World} {a : Option Addr} {len cap : Nat} {zs : List Int} (h : IsRow .u8 w a len cap zs) : Bs w a (zs.take len) ∧ (zs.take len).length = len ∧ len ≤ 9223372036854775807 := by
  rcases h with ⟨rfl, rfl, rfl, rfl⟩ | ⟨x, rfl, hl, hm, hz, hc, hwf⟩
  · exact ⟨⟨.inl rfl, by simp⟩, rfl, by omega⟩
  · unfold maxLen at hm
    have hlen : (zs.take len).length = len := by rw [List.length_take]; omega
    have hget : ∀ k, k < len → (zs.take len).getD k 0 = zs.getD k 0 := by
      intro k hk
      rw [List.getD_eq_getElem?_getD, List.getD_eq_getElem?_getD, List.getElem?_take_of_lt hk]
    refine ⟨⟨?_, ?_⟩, hlen, by omega⟩
    · by_cases h0 : len = 0
      · subst h0; exact .inl (by simp)
      · obtain ⟨b, off, spot⟩ := x
        have hs : spot = none := by
          have := hc 0 (by omega)
          simpa [Addr.add] using World.cell?_spot this
        subst hs
        refine .inr ⟨b, off, rfl, ?_⟩
        intro k hk
        rw [hlen] at hk
        have := hc k (by omega)
        rw [hget k hk, ← this, add_flat]
    · intro k hk
      rw [hlen] at hk
      rw [hget k hk]
      have hmem : zs.getD k 0 ∈ zs := by
        rw [List.getD_eq_getElem?_getD, List.getElem?_eq_getElem (by omega)]
        exact List.getElem_mem _
      have := u8_bd (hwf _ hmem)
      omega

theorem nil_of_row {k : IntKind} {w : World} {a : Option Addr} {len cap : Nat} {zs : List Int} (h : IsRow k w a len cap zs) : a = none → len = 0 ∧ cap = 0 := by
  rintro rfl
  rcases h with ⟨_, rfl, rfl, _⟩ | ⟨x, e, _⟩
  · exact ⟨rfl, rfl⟩
  · cases e
theorem len_cap {k : IntKind} {w : World} {a : Option Addr} {len cap : Nat} {zs : List Int} (h : IsRow k w a len cap zs) : len ≤ cap := by
  rcases h with ⟨_, rfl, rfl, _⟩ | ⟨x, _, h, _⟩
  · exact Nat.le_refl _
  · exact h
/-- How long a row of bytes can be (the form's own reach). -/
theorem reach_of {H : Type} {enc : TypeId × Value → H} {P : Program} {w : World} {base : Nat} {held : Bool} {ts : List TypeId} {ds : List (DataW H)} {t e : TypeId} {k : IntKind} {a : Option Addr} {len cap : Nat} {d : DataW H} {p : List MemPlace}
    (hs : (DataW.weightsEach P ts ds).all (· ≤ reachBytes) = true) (j : Nat) (ht0 : ts[j]? = some t) (hd0 : ds[j]? = some d) (ht : P.underlying t = some (.slice e)) (he : P.underlying e = some (.int k)) (hc : P.cellsOf e = 1) (hb : P.bytesOf e = 1)
    (h : DataW.Trod enc P w base (fun _ => true) held t (.slice a len cap) d p) : cap ≤ 140737488351232 := by
  obtain ⟨fuel, hf⟩ := h
  rcases open_ints ht he hc hf with ⟨hcs, _⟩ | ⟨x, l, c, zs, hcs, _, hl, hm, hz, hx, _, _⟩
  · simp [Value.cells] at hcs
    omega
  · simp [Value.cells] at hcs
    obtain ⟨rfl, rfl, rfl⟩ := hcs
    simp only [Prod.mk.injEq] at hx
    obtain ⟨rfl, _⟩ := hx
    have := sized_slice hs ht0 hd0 ht
    rw [hb] at this
    simp [lits, reachBytes] at this hz
    omega
/-- A struct of one-cell fields that came in by value: its cells, each with its own reading. -/
theorem agg_open {H : Type} {enc : TypeId × Value → H} {P : Program} {w : World} {base : Nat} {spare : Nat → Bool} {held : Bool} {r : Reach} {b0 : Nat} {t : TypeId} {fs : Array Field} {v : Value} {d : DataW H} {p : List MemPlace}
    (hs : P.underlying t = some (.struct fs)) (hone : Go.Deep.oneCellFields P fs = true) (hC : P.cellsOf t = fs.size) (hv : Value.okWide P w r b0 t v) (h : DataW.Trod enc P w base spare held t v d p) :
    ∃ (cs : List Value) (n : Nat), v = .agg cs.toArray ∧ cs.length = fs.size ∧ ∀ (j : Nat) (f : Field), fs[j]? = some f → ∃ (c : Value) (y : DataW H × List MemPlace), cs[j]? = some c ∧ DataW.trod enc P w base spare held n f.type [c] = some y := by
  obtain ⟨cs, rfl, hsz⟩ := okWide_struct hs hv
  obtain ⟨l⟩ := cs
  have hl : l.length = fs.size := by rw [← hC, ← hsz]; rfl
  obtain ⟨fuel, hf⟩ := h
  obtain ⟨xs, n, _, _, _, hlen, hg⟩ := DataW.trod_struct hs hf
  refine ⟨l, n, rfl, hl, fun j f hj => ?_⟩
  obtain ⟨ho, hk⟩ := Go.Deep.hone_of hone j f hj
  have hjl : j < fs.size := (Array.getElem?_eq_some_iff.1 hj).1
  have hc : l[j]? = some (l[j]'(by omega)) := List.getElem?_eq_getElem (by omega)
  have hx : xs[j]? = some (xs[j]'(by omega)) := List.getElem?_eq_getElem (by omega)
  have h1 := hg j f hj
  rw [ho, hk, hx] at h1
  have e : ((Value.agg ⟨l⟩).cells.toList.drop j).take 1 = [l[j]'(by omega)] := by
    show (l.drop j).take 1 = _
    rw [List.drop_eq_getElem_cons (by omega)]; rfl
  exact ⟨_, _, hc, by rw [← e]; exact h1⟩

/-- A row of integers in one cell (a field, say). -/
theorem open_row {H : Type} {enc : TypeId × Value → H} {P : Program} {w : World} {base : Nat} {held : Bool} {t e : TypeId} {k : IntKind} {fuel : Nat} {c : Value} {x : DataW H × List MemPlace} (ht : P.underlying t = some (.slice e)) (he : P.underlying e = some (.int k)) (hc : P.cellsOf e = 1)
    (h : DataW.trod enc P w base (fun _ => true) held fuel t [c] = some x) : ∃ a len cap zs, c = .slice a len cap ∧ IsRow k w a len cap zs := by
  rcases open_ints ht he hc h with ⟨hcs, _⟩ | ⟨x, l, c', zs, hcs, _, hl, hm, hz, _, hcell, hwz⟩
  · simp at hcs
    exact ⟨none, 0, 0, [], hcs, .inl ⟨rfl, rfl, rfl, rfl⟩⟩
  · simp at hcs
    exact ⟨_, _, _, zs, hcs, .inr ⟨_, rfl, hl, hm, by simpa using hz, hcell, hwz⟩⟩
end Go.Proofs.Ytmcnanoamgkljaa
