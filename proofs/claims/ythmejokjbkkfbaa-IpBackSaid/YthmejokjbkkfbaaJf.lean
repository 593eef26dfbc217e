/- One row of bytes, joined: nil, or a new row. -/
import Derived.Test.YthmejokjbkkfbaaIa
namespace Go.Proofs.Ythmejokjbkkfbaa
set_option linter.unusedVariables false
open Go.RowKit

/-- One part. -/
theorem lJoin1F (b : Nat) (v0 : Value) (xs : List Int) (w : World) (hc : w.cell? ⟨b, 0, none⟩ = some v0) (hs : Sl w v0 xs) (hl : xs.length ≤ 1000000) :
    Calls Try.prog 28 #[.slice (some ⟨b, 0, none⟩) 1 1, .slice none 0 0] w fun e w' => ∃ v, e = .returned v ∧ ((v = .slice none 0 0 ∧ xs = []) ∨ Fs w' w.heap.size v xs) ∧ Below w.heap.size w w' := by
  obtain ⟨a, c, rfl, hb, hn⟩ := hs
  by_cases h0 : xs.length = 0
  · obtain rfl : xs = [] := List.eq_nil_of_length_eq_zero h0
    refine (Try.bytes_Join_one_empty b 0 1 a c (.slice none 0 0) w hc).mono ?_
    rintro e w' ⟨rfl, rfl⟩
    exact ⟨_, rfl, .inl ⟨rfl, rfl⟩, Below.refl _ _⟩
  · cases ha : a with
    | none => exact absurd (hn ha).1 h0
    | some ad =>
      subst ha
      have hh : Lib.HoldsBytes w (.slice (some ad) xs.length c) (Lib.bytesOf xs) := holds_of ⟨_, c, rfl, hb, hn⟩
      obtain ⟨p, cap, e, _, hcs⟩ := hh
      rw [Lib.bytesOf_length] at e
      cases e
      refine (Try.bytes_Join_one b 0 1 ad c (Lib.bytesOf xs) (.slice none 0 0) w (by rw [Lib.bytesOf_length]; exact hc) (hcs ad rfl) (by rw [Lib.bytesOf_length]; omega) (by rw [Lib.bytesOf_length]; omega)).mono ?_
      rintro e w' ⟨v, rfl, hf, hb'⟩
      exact ⟨v, rfl, .inr (fs_of hb.2 hf), hb'⟩
theorem iJoin1F (b : Nat) (v0 : Value) (xs : List Int) (w : World) (hc : w.cell? ⟨b, 0, none⟩ = some v0) (hs : Sl w v0 xs) (hl : xs.length ≤ 1000000) :
    Calls Try.prog 19 #[.slice (some ⟨b, 0, none⟩) 1 1] w fun e w' => ∃ v, e = .returned v ∧ ((v = .slice none 0 0 ∧ xs = []) ∨ Fs w' w.heap.size v xs) ∧ Below w.heap.size w w' := by
  have HC := Lib.hid hc
  have HS := Lib.hid hs
  have HL := Lib.hid hl
  clear hc hs hl
  go_enter Try.func19, Try.ntmps19
  go_wp2_with (go_at_call 28; refine (lJoin1F b v0 xs _ HC.out HS.out HL.out).mono ?_; rintro e w' ⟨v, rfl, hf, hb1⟩)
  go_ret
  exact ⟨_, rfl, hf, hb1⟩
end Go.Proofs.Ythmejokjbkkfbaa
