/- Contracts of package addr, and of the document's own answers for it: an address's bytes, and the address of bytes. -/
import Derived.Test.YthmejokjbkkfbaaHd
import Derived.Test.YthmejokjbkkfbaaBy
import Derived.Laws.BitsAllLaws
namespace Go.Proofs.Ythmejokjbkkfbaa
set_option linter.unusedVariables false
open Go.RowKit

def ofe (n : Nat) : Int := if n < 4 then 3 else if 4 < n then 2 else 0
def bytes4 (a : Int) : Obj := .cells #[.int .u8 (a / 16777216), .int .u8 (a / 65536 % 256), .int .u8 (a / 256 % 256), .int .u8 (a % 256)] 5

set_option maxHeartbeats 400000 in
theorem aBytes (a : Int) (w : World) (h0 : 0 ≤ a) (h1 : a ≤ 4294967295) :
    Calls Try.prog 30 #[.int .u32 a] w fun e w' => e = .returned (.slice (some ⟨w.heap.size, 0, none⟩) 4 4) ∧
      w.alloc (.cells #[.int .u8 (a / 16777216), .int .u8 (a / 65536 % 256), .int .u8 (a / 256 % 256), .int .u8 (a % 256)] 5) = w' := by
  go_enter Try.func30, Try.ntmps30
  go_wp2
  go_ret
  exact ⟨rfl, rfl⟩
def acc (xs : List Int) : Int := xs.foldl (fun a x => a * 256 + x) 0

theorem acc_succ (l : List Int) (k : Nat) (h : k < l.length) : acc (l.take (k + 1)) = acc (l.take k) * 256 + l.getD k 0 := by
  unfold acc
  rw [List.take_add_one, List.getElem?_eq_getElem h, List.foldl_append, List.getD_eq_getElem?_getD, List.getElem?_eq_getElem h]
  rfl
theorem acc_bd (l : List Int) (h : ∀ k, k < 4 → 0 ≤ l.getD k 0 ∧ l.getD k 0 ≤ 255) (hl : l.length ≤ 4) : ∀ k, k ≤ 3 → 0 ≤ acc (l.take k) ∧ acc (l.take k) < (256 : Int) ^ k
  | 0, _ => by simp [acc]
  | k + 1, hk => by
    have ih := acc_bd l h hl k (by omega)
    by_cases hkl : k < l.length
    · rw [acc_succ l k hkl, Int.pow_succ]
      have := h k (by omega)
      omega
    · rw [show l.take (k + 1) = l.take k by rw [List.take_of_length_le (by omega), List.take_of_length_le (by omega)], Int.pow_succ]
      omega
theorem or_byte (m x : Int) (h0 : 0 ≤ m) (h1 : m < 16777216) (h2 : 0 ≤ x) (h3 : x ≤ 255) : bits .or .u32 (m * 256 % 4294967296) x = m * 256 + x := by
  obtain ⟨M, rfl⟩ := Int.eq_ofNat_of_zero_le h0
  obtain ⟨X, rfl⟩ := Int.eq_ofNat_of_zero_le h2
  have e : ((M : Int) * 256 % 4294967296) = ((M * 256 : Nat) : Int) := by omega
  rw [e, u32_or_nat _ _ (by omega) (by omega)]
  have := Nat.shiftLeft_add_eq_or_of_lt (i := 8) (b := X) (by omega) M
  rw [Nat.shiftLeft_eq] at this
  rw [← this]; omega
theorem ret_i {k : IntKind} {a b : Int} (h : a = b) : Value.int k a = Value.int k b := by rw [h]
theorem or_acc (l : List Int) (k : Nat) (hk4 : k ≤ 3) (hlt : k < 4) (hl4 : l.length ≤ 4) (hB : ∀ k, k < 4 → 0 ≤ l.getD k 0 ∧ l.getD k 0 ≤ 255) {x : Int} (hx : x = l.getD k 0) (hkl : k < l.length) :
    bits .or .u32 (acc (l.take k) * 256 % 4294967296) x = acc (l.take (k + 1)) := by
  have hb := acc_bd l hB hl4 k hk4
  have hp : (256 : Int) ^ k ≤ 16777216 := by
    match k, hk4 with
    | 0, _ => decide
    | 1, _ => decide
    | 2, _ => decide
    | 3, _ => decide
  have h := hB k hlt
  rw [acc_succ l k hkl, hx, or_byte _ _ hb.1 (by omega) h.1 h.2]

set_option maxHeartbeats 400000 in
theorem aOf (a : Option Addr) (n cap : Nat) (xs : List Int) (w : World) (hn : xs.length = n) (hm : n ≤ 9223372036854775807) (hb : Bs w a xs) :
    Calls Try.prog 24 #[.slice a n cap] w fun e w' => e = .returned (.tuple #[.int .u32 (ofv xs), .int .i64 (ofe n)]) ∧ w = w' := by
  by_cases h1 : n < 4
  · have e1 : ofv xs = 0 := by unfold ofv; split <;> simp_all
    have e2 : ofe n = 3 := by simp [ofe, h1]
    rw [e1, e2]
    clear hb e1 e2
    have HN := Lib.hid hn; clear hn
    go_enter Try.func24, Try.ntmps24
    go_wp2
    go_ret2
    exact ⟨rfl, rfl⟩
  · by_cases h2 : 4 < n
    · have e1 : ofv xs = 0 := by unfold ofv; split <;> simp_all
      have e2 : ofe n = 2 := by simp [ofe, h1, h2]
      rw [e1, e2]
      clear hb e1 e2
      have HN := Lib.hid hn; clear hn
      go_enter Try.func24, Try.ntmps24
      go_wp2
      go_ret2
      exact ⟨rfl, rfl⟩
    · obtain rfl : n = 4 := by omega
      match xs, hn with
      | [x0, x1, x2, x3], _ =>
        obtain ⟨hc, hbd⟩ := hb
        rcases hc with hc | ⟨b, off, rfl, hc⟩
        · simp at hc
        · have hc' : ∀ k, k < 4 → w.cell? ⟨b, off + k, none⟩ = some (.int .u8 ([x0, x1, x2, x3].getD k 0)) := fun k hk => hc k hk
          have hbd' : ∀ k, k < 4 → 0 ≤ [x0, x1, x2, x3].getD k 0 ∧ [x0, x1, x2, x3].getD k 0 ≤ 255 := fun k hk => hbd k hk
          clear hc hbd h1 h2 hm
          have HC := Lib.hid hc'
          have HB := Lib.hid hbd'
          clear hc' hbd'
          generalize hl : [x0, x1, x2, x3] = l at *
          have hl4 : l.length = 4 := by subst hl; rfl
          have HL4 := Lib.hid hl4
          clear hl4
          go_enter Try.func24, Try.ntmps24
          go_wp2
          go_loop [4, 15] (fun t i => ∃ k : Nat, k ≤ 4 ∧ i = .int .i64 k ∧ t = .int .u32 (acc (l.take k))) (fun _ i => 4 - (intOf i).toNat)
          case atStart => exact ⟨0, by omega, rfl, rfl⟩
          case round =>
            obtain ⟨k, hk, rfl, rfl⟩ := hrel
            by_cases hlt : k < 4
            · have hck := HC.out k hlt
              have hbk := HB.out k hlt
              obtain ⟨x, hx⟩ : ∃ x, x = l.getD k 0 := ⟨_, rfl⟩
              rw [← hx] at hck hbk
              obtain ⟨hbk1, hbk2⟩ := hbk
              have HX := Lib.hid hx
              clear hx
              go_wp2
              go_round
              case rel => exact ⟨k + 1, by omega, by go_num, ret_i (or_acc l k (by omega) hlt (Nat.le_of_eq HL4.out) HB.out HX.out (by rw [HL4.out]; exact hlt))⟩
              case measure => simp [intOf]; omega
            · obtain rfl : k = 4 := by omega
              go_wp2
              go_ret2
              exact ⟨by rw [List.take_of_length_le (Nat.le_of_eq HL4.out)]; exact congrArg Ending.returned (congrArg Value.tuple (by subst hl; simp [acc, ofv, ofe])), rfl⟩

theorem rBytes (a : Int) (w : World) (h0 : 0 ≤ a) (h1 : a ≤ 4294967295) :
    Calls Try.prog 21 #[.int .u32 a] w fun e w' => e = .returned (.slice (some ⟨w.heap.size, 0, none⟩) 4 4) ∧ w.alloc (bytes4 a) = w' := by
  go_enter Try.func21, Try.ntmps21
  go_wp2
  go_ret
  refine ⟨rfl, ?_⟩
  rfl

theorem rOf (a : Option Addr) (n cap : Nat) (xs : List Int) (w : World) (hn : xs.length = n) (hm : n ≤ 9223372036854775807) (hb : Bs w a xs) :
    Calls Try.prog 27 #[.slice a n cap] w fun e w' => e = .returned (.tuple #[.int .u32 (ofv xs), .int .i64 (ofe n)]) ∧ Below w.heap.size w w' := by
  by_cases h1 : n < 4
  · have e1 : ofv xs = 0 := by unfold ofv; split <;> simp_all
    have e2 : ofe n = 3 := by simp [ofe, h1]
    rw [e1, e2]
    clear hb e1 e2
    have HN := Lib.hid hn; clear hn
    go_enter Try.func27, Try.ntmps27
    go_wp2
    go_ret2
    exact ⟨rfl, Below.refl _ _⟩
  · by_cases h2 : 4 < n
    · have e1 : ofv xs = 0 := by unfold ofv; split <;> simp_all
      have e2 : ofe n = 2 := by simp [ofe, h1, h2]
      rw [e1, e2]
      clear hb e1 e2
      have HN := Lib.hid hn; clear hn
      go_enter Try.func27, Try.ntmps27
      go_wp2
      go_ret2
      exact ⟨rfl, Below.refl _ _⟩
    · obtain rfl : n = 4 := by omega
      match xs, hn with
      | [x0, x1, x2, x3], _ =>
        obtain ⟨hc, hbd⟩ := hb
        rcases hc with hc | ⟨b, off, rfl, hc⟩
        · simp at hc
        · have c0 : w.cell? ⟨b, off, none⟩ = some (.int .u8 x0) := hc 0 (by simp)
          have c1 : w.cell? ⟨b, off + 1, none⟩ = some (.int .u8 x1) := hc 1 (by simp)
          have c2 : w.cell? ⟨b, off + 2, none⟩ = some (.int .u8 x2) := hc 2 (by simp)
          have c3 : w.cell? ⟨b, off + 3, none⟩ = some (.int .u8 x3) := hc 3 (by simp)
          obtain ⟨d0, d0'⟩ : 0 ≤ x0 ∧ x0 ≤ 255 := hbd 0 (by simp)
          obtain ⟨d1, d1'⟩ : 0 ≤ x1 ∧ x1 ≤ 255 := hbd 1 (by simp)
          obtain ⟨d2, d2'⟩ : 0 ≤ x2 ∧ x2 ≤ 255 := hbd 2 (by simp)
          obtain ⟨d3, d3'⟩ : 0 ≤ x3 ∧ x3 ≤ 255 := hbd 3 (by simp)
          clear hc hbd h1 h2 hm
          go_enter Try.func27, Try.ntmps27
          go_wp2
          go_quiet (fail)
          go_wp2
          go_ret2
          refine ⟨?_, bdrawn (Below.refl _ _) _⟩
          refine congrArg Ending.returned (congrArg Value.tuple ?_)
          have e : x0 * 16777216 + x1 * 65536 + x2 * 256 + x3 = ((x0 * 256 + x1) * 256 + x2) * 256 + x3 := by omega
          show #[Value.int .u32 (x0 * 16777216 + x1 * 65536 + x2 * 256 + x3), Value.int .i64 0] = _
          rw [e]; rfl

end Go.Proofs.Ythmejokjbkkfbaa
