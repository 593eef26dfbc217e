/- Contracts of package ip: Encode. -/
import Derived.Test.YthmejokjbkkfbaaIb
namespace Go.Proofs.Ythmejokjbkkfbaa
set_option linter.unusedVariables false
open Go.RowKit

theorem fbt_size (al : Bool) : 4 * (fbt al - 64) = hsz al := by cases al <;> rfl
theorem fbt_ge (al : Bool) : 64 ≤ fbt al ∧ fbt al ≤ 255 := by cases al <;> decide
theorem iSizeF (al : Bool) (w : World) :
    Calls Try.prog 17 #[.int .u8 (fbt al)] w fun e w' => e = .returned (.int .i64 (hsz al)) ∧ w = w' := by
  have := iSize (fbt al) w (fbt_ge al).1 (fbt_ge al).2
  rwa [fbt_size] at this
theorem iEncode_no (h : Hdr) (a : Option Addr) (n c : Nat) (w : World) (hm : n ≤ 9223372036854775807) (hl : 1500 < hsz h.alert + n) :
    Calls Try.prog 10 #[.agg #[.int .u32 h.src, .int .u32 h.dst, .int .u8 h.proto, .int .u8 h.ttl, .int .u16 h.id, .bool h.alert], .slice a n c] w fun e w' => e = .returned (.tuple #[.slice none 0 0, .int .i64 7]) ∧ Below w.heap.size w w' := by
  have HG := hsz_ge h.alert
  obtain ⟨s, hs⟩ : ∃ s, s = hsz h.alert := ⟨_, rfl⟩
  rw [← hs] at HG hl
  have HS := Lib.hid hs
  clear hs
  go_enter Try.func10, Try.ntmps10
  go_wp2_with (first
    | (go_at_call 18; refine (iFirst h _).mono ?_; rintro e w1 ⟨rfl, hb1⟩; have HB1 := Lib.hid hb1; clear hb1)
    | (go_at_call 17; refine (iSizeF _ _).mono ?_; rintro e w2 ⟨rfl, rfl⟩; rw [← HS.out]))
  go_ret2
  exact ⟨rfl, ((Below.refl _ w).alloc (Nat.le_refl _) _).trans (HB1.out.mono (by simp))⟩
set_option maxHeartbeats 1000000 in
theorem iEncode (h : Hdr) (a : Option Addr) (n c : Nat) (xs : List Int) (w : World) (hk : h.ok) (hx : xs.length = n) (hb : Bs w a xs) (hnil : a = none → n = 0 ∧ c = 0) (hl : hsz h.alert + n ≤ 1500) :
    Calls Try.prog 10 #[.agg #[.int .u32 h.src, .int .u32 h.dst, .int .u8 h.proto, .int .u8 h.ttl, .int .u16 h.id, .bool h.alert], .slice a n c] w fun e w' => ∃ v, e = .returned (.tuple #[v, .int .i64 0]) ∧ Fs w' w.heap.size v (enc h xs) ∧ Below w.heap.size w w' := by
  have HG := hsz_ge h.alert
  have HL : Hid ((hbytes h ((hsz h.alert + n : Nat) : Int)).length = hsz h.alert) := Lib.hid (hbytes_len _ _)
  have HE : Hid (enc h xs = [hbytes h ((hsz h.alert + n : Nat) : Int), xs].flatten) := Lib.hid (by unfold enc; rw [hx]; simp)
  have HEL : Hid ((enc h xs).length ≤ 1500) := Lib.hid (by rw [enc_len, hx]; exact hl)
  obtain ⟨s, hs⟩ : ∃ s, s = hsz h.alert := ⟨_, rfl⟩
  rw [← hs] at HG hl HL
  have HS := Lib.hid hs
  have HX := Lib.hid hx
  have HB := Lib.hid hb
  have HN := Lib.hid hnil
  have HK := Lib.hid hk
  have eall : ((s : Int) + (n : Int)) = ((s + n : Nat) : Int) := by omega
  have EA := Lib.hid eall
  clear hs hx hb hnil hk eall
  go_enter Try.func10, Try.ntmps10
  go_wp2_with (first
    | (go_at_call 18; refine (iFirst h _).mono ?_; rintro e w1 ⟨rfl, hb1⟩; have HB1 : Hid (Below w.heap.size w w1) := Lib.hid (((Below.refl _ w).alloc (Nat.le_refl _) _).trans (hb1.mono (by simp))); have c0 := hb1.cell (p := ⟨w.heap.size, 0, none⟩) (by simp); have c1 := hb1.cell (p := ⟨w.heap.size, 1, none⟩) (by simp); have c2 := hb1.cell (p := ⟨w.heap.size, 2, none⟩) (by simp); have c3 := hb1.cell (p := ⟨w.heap.size, 3, none⟩) (by simp); have c4 := hb1.cell (p := ⟨w.heap.size, 4, none⟩) (by simp); have c5 := hb1.cell (p := ⟨w.heap.size, 5, none⟩) (by simp); simp only [World.cell?_alloc_new] at c0 c1 c2 c3 c4 c5; clear hb1)
    | (go_at_call 17; refine (iSizeF _ _).mono ?_; rintro e w2 ⟨rfl, rfl⟩; rw [← HS.out])
    | (go_at_call 20; rw [EA.out]; refine (iHeader h (s + n) _ HK.out hl).mono ?_; rintro e w3 ⟨v, rfl, hf, hb3⟩; obtain ⟨g, c', rfl, hg, hgc, hbs, -⟩ := hf; have HB3 : Hid (Below w1.heap.size w1 w3) := Lib.hid hb3; have HS4 : Hid (Sl w3 (.slice (some ⟨g, 0, none⟩) s c') (hbytes h ((hsz h.alert + n : Nat) : Int))) := Lib.hid ⟨_, c', by rw [hbytes_len, ← HS.out], by rw [← HS.out]; exact hbs, fun e => by cases e⟩; have HB4 : Hid (Below w.heap.size w w3) := Lib.hid (HB1.out.trans (hb3.mono HB1.out.size)); rw [hbytes_len, ← HS.out]; clear hb3 hbs hg)
    | (go_at_call 19; refine (iJoin _ 2 _ [hbytes h ((hsz h.alert + n : Nat) : Int), xs] _ rfl (by omega) (new_parts2 w3 _ _ _ _ HS4.out (Sl.below ⟨a, c, by rw [HX.out], HB.out, fun e => ⟨HX.out.trans (HN.out e).1, (HN.out e).2⟩⟩ HB4.out)) (by rw [← HE.out]; exact Nat.le_trans HEL.out (by omega)) (by omega)).mono ?_; rintro e w5 ⟨v, rfl, hf, hb5⟩; have HF := Lib.hid hf; have HB5 := Lib.hid hb5; clear hf hb5))
  go_ret2
  have hb4 : Below w.heap.size w w3 := HB1.out.trans (HB3.out.mono HB1.out.size)
  have hb4' := hb4.alloc hb4.size (.cells #[.slice (some ⟨g, 0, none⟩) s c', .slice a n c] 27)
  refine ⟨_, rfl, ?_, hb4'.trans (HB5.out.mono hb4'.size)⟩
  rw [HE.out]
  exact HF.out.up hb4'.size
end Go.Proofs.Ythmejokjbkkfbaa
