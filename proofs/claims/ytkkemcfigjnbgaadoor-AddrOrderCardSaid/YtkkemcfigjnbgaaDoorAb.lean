/- Contracts of package addr: of bytes. -/
import Derived.Test.YtkkemcfigjnbgaaDoorAa
import Derived.Laws.BitsAllLaws
namespace Go.Proofs.YtkkemcfigjnbgaaDoor
set_option linter.unusedVariables false
open Go.RowKit

/-- A slice of bytes that begins at a: its numbers. -/
def Bs (w : World) (a : Option Addr) (xs : List Int) : Prop := (xs = [] ∨ ∃ b off, a = some ⟨b, off, none⟩ ∧ ∀ k, k < xs.length → w.cell? ⟨b, off + k, none⟩ = some (.int .u8 (xs.getD k 0))) ∧ ∀ k, k < xs.length → 0 ≤ xs.getD k 0 ∧ xs.getD k 0 ≤ 255

def ofv : List Int → Int | [x0, x1, x2, x3] => ((x0 * 256 + x1) * 256 + x2) * 256 + x3 | _ => 0
def ofe (n : Nat) : Int := if n < 4 then 3 else if 4 < n then 2 else 0

def acc (xs : List Int) : Int := xs.foldl (fun a x => a * 256 + x) 0

theorem acc_succ (l : List Int) (k : Nat) (h : k < l.length) : acc (l.take (k + 1)) = acc (l.take k) * 256 + l.getD k 0 := by
  unfold acc
  rw [List.take_add_one, List.getElem?_eq_getElem h, List.foldl_append, List.getD_eq_getElem?_getD, List.getElem?_eq_getElem h]
  rfl
theorem acc_bd (l : List Int) (h : ∀ k, k < 4 → 0 ≤ l.getD k 0 ∧ l.getD k 0 ≤ 255) (hl : l.length ≤ 4) : ∀ k, k ≤ 3 → 0 ≤ acc (l.take k) ∧ acc (l.take k) < (256 : Int) ^ k
  | 0, _ => by simp [acc]
  | k + 1, hk => by
    have ih := acc_bd l h hl k (by omega)
    by_cases hkl : k < l.length
    · rw [acc_succ l k hkl, Int.pow_succ]
      have := h k (by omega)
      omega
    · rw [show l.take (k + 1) = l.take k by rw [List.take_of_length_le (by omega), List.take_of_length_le (by omega)], Int.pow_succ]
      omega
theorem or_byte (m x : Int) (h0 : 0 ≤ m) (h1 : m < 16777216) (h2 : 0 ≤ x) (h3 : x ≤ 255) : bits .or .u32 (m * 256 % 4294967296) x = m * 256 + x := by
  obtain ⟨M, rfl⟩ := Int.eq_ofNat_of_zero_le h0
  obtain ⟨X, rfl⟩ := Int.eq_ofNat_of_zero_le h2
  have e : ((M : Int) * 256 % 4294967296) = ((M * 256 : Nat) : Int) := by omega
  rw [e, u32_or_nat _ _ (by omega) (by omega)]
  have := Nat.shiftLeft_add_eq_or_of_lt (i := 8) (b := X) (by omega) M
  rw [Nat.shiftLeft_eq] at this
  rw [← this]; omega
theorem ret_i {k : IntKind} {a b : Int} (h : a = b) : Value.int k a = Value.int k b := by rw [h]
theorem or_acc (l : List Int) (k : Nat) (hk4 : k ≤ 3) (hlt : k < 4) (hl4 : l.length ≤ 4) (hB : ∀ k, k < 4 → 0 ≤ l.getD k 0 ∧ l.getD k 0 ≤ 255) {x : Int} (hx : x = l.getD k 0) (hkl : k < l.length) :
    bits .or .u32 (acc (l.take k) * 256 % 4294967296) x = acc (l.take (k + 1)) := by
  have hb := acc_bd l hB hl4 k hk4
  have hp : (256 : Int) ^ k ≤ 16777216 := by
    match k, hk4 with
    | 0, _ => decide
    | 1, _ => decide
    | 2, _ => decide
    | 3, _ => decide
  have h := hB k hlt
  rw [acc_succ l k hkl, hx, or_byte _ _ hb.1 (by omega) h.1 h.2]

set_option maxHeartbeats 400000 in
theorem aOf (a : Option Addr) (n cap : Nat) (xs : List Int) (w : World) (hn : xs.length = n) (hm : n ≤ 9223372036854775807) (hb : Bs w a xs) :
    Calls Tryd.prog 24 #[.slice a n cap] w fun e w' => e = .returned (.tuple #[.int .u32 (ofv xs), .int .i64 (ofe n)]) ∧ w = w' := by
  by_cases h1 : n < 4
  · have e1 : ofv xs = 0 := by unfold ofv; split <;> simp_all
    have e2 : ofe n = 3 := by simp [ofe, h1]
    rw [e1, e2]
    clear hb e1 e2
    have HN := Lib.hid hn; clear hn
    go_enter Tryd.func24, Tryd.ntmps24
    go_wp2
    go_ret2
    exact ⟨rfl, rfl⟩
  · by_cases h2 : 4 < n
    · have e1 : ofv xs = 0 := by unfold ofv; split <;> simp_all
      have e2 : ofe n = 2 := by simp [ofe, h1, h2]
      rw [e1, e2]
      clear hb e1 e2
      have HN := Lib.hid hn; clear hn
      go_enter Tryd.func24, Tryd.ntmps24
      go_wp2
      go_ret2
      exact ⟨rfl, rfl⟩
    · obtain rfl : n = 4 := by omega
      match xs, hn with
      | [x0, x1, x2, x3], _ =>
        obtain ⟨hc, hbd⟩ := hb
        rcases hc with hc | ⟨b, off, rfl, hc⟩
        · simp at hc
        · have hc' : ∀ k, k < 4 → w.cell? ⟨b, off + k, none⟩ = some (.int .u8 ([x0, x1, x2, x3].getD k 0)) := fun k hk => hc k hk
          have hbd' : ∀ k, k < 4 → 0 ≤ [x0, x1, x2, x3].getD k 0 ∧ [x0, x1, x2, x3].getD k 0 ≤ 255 := fun k hk => hbd k hk
          clear hc hbd h1 h2 hm
          have HC := Lib.hid hc'
          have HB := Lib.hid hbd'
          clear hc' hbd'
          generalize hl : [x0, x1, x2, x3] = l at *
          have hl4 : l.length = 4 := by subst hl; rfl
          have HL4 := Lib.hid hl4
          clear hl4
          go_enter Tryd.func24, Tryd.ntmps24
          go_wp2
          go_loop [4, 15] (fun t i => ∃ k : Nat, k ≤ 4 ∧ i = .int .i64 k ∧ t = .int .u32 (acc (l.take k))) (fun _ i => 4 - (intOf i).toNat)
          case atStart => exact ⟨0, by omega, rfl, rfl⟩
          case round =>
            obtain ⟨k, hk, rfl, rfl⟩ := hrel
            by_cases hlt : k < 4
            · have hck := HC.out k hlt
              have hbk := HB.out k hlt
              obtain ⟨x, hx⟩ : ∃ x, x = l.getD k 0 := ⟨_, rfl⟩
              rw [← hx] at hck hbk
              obtain ⟨hbk1, hbk2⟩ := hbk
              have HX := Lib.hid hx
              clear hx
              go_wp2
              go_round
              case rel => exact ⟨k + 1, by omega, by go_num, ret_i (or_acc l k (by omega) hlt (Nat.le_of_eq HL4.out) HB.out HX.out (by rw [HL4.out]; exact hlt))⟩
              case measure => simp [intOf]; omega
            · obtain rfl : k = 4 := by omega
              go_wp2
              go_ret2
              exact ⟨by rw [List.take_of_length_le (Nat.le_of_eq HL4.out)]; exact congrArg Ending.returned (congrArg Value.tuple (by subst hl; simp [acc, ofv, ofe])), rfl⟩

/-- What 'number' answers. -/
theorem drop_cons (s : ByteArray) (k : Nat) (h : k < s.size) : s.data.toList.drop k = s[k] :: s.data.toList.drop (k + 1) := by
  rw [List.drop_eq_getElem_cons (by simpa using h)]; rfl

theorem ng_stop {c : UInt8} {r : List UInt8} {m k : Nat} {R : Nat × Nat} (h : Hid (numGo (c :: r) m k = R)) (hs : (c.toNat < 48 ∨ 57 < c.toNat) ∨ (0 < k ∧ m = 0) ∨ 255 < m * 10 + (c.toNat - 48)) : R = (m, k) := by
  have e := h.out
  unfold numGo at e
  by_cases h1 : c.toNat < 48 ∨ 57 < c.toNat
  · rw [if_pos h1] at e; exact e.symm
  · rw [if_neg h1] at e
    by_cases h2 : 0 < k ∧ m = 0
    · rw [if_pos h2] at e; exact e.symm
    · rw [if_neg h2, if_pos (by omega)] at e; exact e.symm
theorem ng_go {c : UInt8} {r : List UInt8} {m k : Nat} {R : Nat × Nat} (h : Hid (numGo (c :: r) m k = R)) (h1 : 48 ≤ c.toNat) (h2 : c.toNat ≤ 57) (h3 : ¬ (0 < k ∧ m = 0)) (h4 : m * 10 + (c.toNat - 48) ≤ 255) :
    Hid (numGo r (m * 10 + (c.toNat - 48)) (k + 1) = R) := by
  have e := h.out
  unfold numGo at e
  rw [if_neg (by omega), if_neg h3, if_neg (by omega)] at e
  exact e
theorem ng_end {m k : Nat} {R : Nat × Nat} (h : R = (m, k)) : Ending.returned (Value.tuple #[Value.int IntKind.u8 (m : Int), Value.int IntKind.i64 (k : Int)]) = Ending.returned (Value.tuple #[Value.int IntKind.u8 (R.1 : Nat), Value.int IntKind.i64 (R.2 : Nat)]) := by rw [h]

set_option maxHeartbeats 1000000 in
theorem aNumber (s : ByteArray) (w : World) (hs : s.size ≤ 9223372036854775807) :
    Calls Tryd.prog 30 #[.string s] w fun e w' => e = .returned (.tuple #[.int .u8 ((numGo s.data.toList 0 0).1 : Nat), .int .i64 ((numGo s.data.toList 0 0).2 : Nat)]) ∧ w = w' := by
  obtain ⟨R, hR⟩ : ∃ R, R = numGo s.data.toList 0 0 := ⟨_, rfl⟩
  rw [← hR]
  have HR := Lib.hid hR
  clear hR
  go_enter Tryd.func30, Tryd.ntmps30
  go_wp2
  go_step3
  go_wp2
  go_step3
  go_wp2
  go_loop [4, 5] (fun n d => ∃ k m : Nat, k ≤ s.size ∧ m ≤ 255 ∧ d = .int .i64 k ∧ n = .int .i64 m ∧ Hid (numGo (s.data.toList.drop k) m k = R)) (fun _ d => s.size - (intOf d).toNat)
  case atStart => exact ⟨0, 0, by omega, by omega, rfl, rfl, HR.out.symm⟩
  case round =>
    obtain ⟨k, m, hk, hm, rfl, rfl, hG⟩ := hrel
    by_cases hlt : k < s.size
    · have hgo : Hid (numGo (s[k] :: s.data.toList.drop (k + 1)) m k = R) := by rw [← drop_cons s k hlt]; exact hG
      clear hG
      rcases Nat.eq_zero_or_pos m with hm0 | hm0
      · have hb : ((m : Int) == 0) = true := by rw [beq_iff_eq]; omega
        have HM := Lib.hid hm0
        clear hm0
        go_wp2
        all_goals first
          | (go_ret2; exact ⟨ng_end (ng_stop hgo (by have := HM.out; omega)), rfl⟩)
          | (go_round
             case rel => exact ⟨k + 1, m * 10 + (s[k].toNat - 48), by omega, by omega, by go_num, by go_num, ng_go hgo (by omega) (by omega) (by have := HM.out; omega) (by omega)⟩
             case measure => simp [intOf]; omega)
      · have hb : ((m : Int) == 0) = false := by rw [beq_eq_false_iff_ne]; omega
        go_wp2
        all_goals first
          | (go_ret2; exact ⟨ng_end (ng_stop hgo (by omega)), rfl⟩)
          | (go_round
             case rel => exact ⟨k + 1, m * 10 + (s[k].toNat - 48), by omega, by omega, by go_num, by go_num, ng_go hgo (by omega) (by omega) (by omega) (by omega)⟩
             case measure => simp [intOf]; omega)
    · obtain rfl : k = s.size := by omega
      have hgo : R = (m, s.size) := by
        have := hG.out
        rw [List.drop_of_length_le (by simp)] at this
        exact this.symm
      have HR2 := Lib.hid hgo
      clear hgo hG
      go_wp2
      go_ret2
      exact ⟨ng_end HR2.out, rfl⟩
end Go.Proofs.YtkkemcfigjnbgaaDoor
