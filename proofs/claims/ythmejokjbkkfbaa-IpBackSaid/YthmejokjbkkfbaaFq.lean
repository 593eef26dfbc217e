/- What the laws of stage 4 share: the document's example. -/
import Derived.Test.YthmejokjbkkfbaaFp
namespace Go.Proofs.Ythmejokjbkkfbaa
set_option linter.unusedVariables false
open Go.RowKit

def L20 : List Int := [69, 0, 0, 20, 0, 0, 0, 0, 0, 0, 186, 235, 0, 0, 0, 0, 0, 0, 0, 0]
theorem encB_len (h : Hdr) (xs : List Int) : (encB h xs).length ≤ 1500 := by
  unfold encB; split
  · rw [enc_len]; assumption
  · simp
theorem decB_len (xs : List Int) : (decB xs).length ≤ xs.length := by
  unfold decB; split
  · rename_i hf; rw [bod_len (good_of hf).lenA]; have := (good_of hf).lenA; omega
  · simp
theorem passB_len (xs : List Int) (h : IsB (passB xs)) : (passB xs).length ≤ 1500 := by
  unfold passB; split
  · rename_i hf
    split
    · simp
    · rw [enc_len, bod_len (good_of hf).lenA]
      have := (good_of hf).form.2.2
      show hsz (al0 xs) + _ ≤ 1500
      omega
  · simp
theorem hz_ok : hz.ok := ⟨⟨by decide, by decide⟩, ⟨by decide, by decide⟩, ⟨by decide, by decide⟩, ⟨by decide, by decide⟩, ⟨by decide, by decide⟩⟩
theorem enc_hz : enc hz [] = L20 := by decide
theorem dec_hz : fault L20 = 0 ∧ decH L20 = hz ∧ decB L20 = [] := by
  have h := fault_enc hz_ok [] [] (by decide)
  have hb := bod_hb hz_ok [] [] (by decide)
  rw [List.append_nil, enc_hz] at h hb
  refine ⟨h.1, ?_, ?_⟩
  · unfold decH; rw [if_pos h.1]; exact h.2
  · unfold decB; rw [if_pos h.1]; exact hb

set_option maxHeartbeats 1000000 in
theorem iShown (w : World) :
    Calls Try.prog 9 #[] w fun e w' => e = .returned (.bool true) ∧ Below w.heap.size w w' := by
  have ENC : Hid (Calls Try.prog 10 #[.agg #[.int .u32 0, .int .u32 0, .int .u8 0, .int .u8 0, .int .u16 0, .bool false], .slice none 0 0] w fun e w' => ∃ g c, e = .returned (.tuple #[.slice (some ⟨g, 0, none⟩) 20 c, .int .i64 0]) ∧ 20 ≤ c ∧ Bs w' (some ⟨g, 0, none⟩) L20 ∧ Below w.heap.size w w') := Lib.hid (by
    refine (iEncode hz none 0 0 [] w hz_ok rfl ⟨.inl rfl, isB_nil⟩ (fun _ => ⟨rfl, rfl⟩) (by decide)).mono ?_
    rintro e w' ⟨v, rfl, ⟨g, c, rfl, hg, hgc, hbs, -⟩, hb⟩
    rw [enc_hz] at hbs hgc ⊢
    exact ⟨g, c, rfl, hgc, hbs, hb⟩)
  have DEC : Hid (∀ W g c, 20 ≤ c → Bs W (some ⟨g, 0, none⟩) L20 → Calls Try.prog 12 #[.slice (some ⟨g, 0, none⟩) 20 c] W fun e w' => ∃ a2 c2, e = .returned (.tuple #[.agg #[.int .u32 0, .int .u32 0, .int .u8 0, .int .u8 0, .int .u16 0, .bool false], .slice a2 0 c2, .int .i64 0]) ∧ Below W.heap.size W w') := Lib.hid (fun W g c hc hbs => by
    refine (iDecode _ 20 c L20 W rfl (by omega) hc hbs).mono ?_
    obtain ⟨e1, e2, e3⟩ := dec_hz
    rw [e1, e2, e3]
    rintro e w' ⟨v, rfl, ⟨a2, c2, rfl, -, -⟩, hb⟩
    exact ⟨a2, c2, rfl, hb⟩)
  go_enter Try.func9, Try.ntmps9
  go_wp2_with (first
    | (go_at_call 10; refine ENC.out.mono ?_; rintro e w1 ⟨g, c, rfl, hgc, hbs, hb1⟩; have HBS := Lib.hid hbs; have HB1 := Lib.hid hb1; clear hbs hb1)
    | (go_at_call 12; refine (DEC.out _ g c hgc HBS.out).mono ?_; rintro e w2 ⟨a2, c2, rfl, hb2⟩; have HB2 := Lib.hid (HB1.out.trans (hb2.mono HB1.out.size)); have HBS2 := Lib.hid (bs_below HBS.out hb2); have c0 : w2.cell? ⟨g, 0, none⟩ = some (.int .u8 69) := (bs_cell HBS2.out (k := 0) (by decide)); have c3 : w2.cell? ⟨g, 3, none⟩ = some (.int .u8 20) := (Nat.zero_add 3 ▸ bs_cell HBS2.out (k := 3) (by decide)); have c10 : w2.cell? ⟨g, 10, none⟩ = some (.int .u8 186) := (Nat.zero_add 10 ▸ bs_cell HBS2.out (k := 10) (by decide)); have c11 : w2.cell? ⟨g, 11, none⟩ = some (.int .u8 235) := (Nat.zero_add 11 ▸ bs_cell HBS2.out (k := 11) (by decide)); have hlt : g < w2.heap.size := cell_lt c0; clear hb2))
  go_ret
  exact ⟨rfl, HB2.out.alloc HB2.out.size _⟩
end Go.Proofs.Ythmejokjbkkfbaa
