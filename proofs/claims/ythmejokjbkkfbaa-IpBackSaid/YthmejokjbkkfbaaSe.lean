/- Contracts of the document's own answers for sums (stolonref02): the sum. -/
import Derived.Test.YthmejokjbkkfbaaSa
namespace Go.Proofs.Ythmejokjbkkfbaa
set_option linter.unusedVariables false
open Go.RowKit

set_option maxHeartbeats 1000000 in
theorem rOf2 (a : Option Addr) (len cap : Nat) (xs : List Int) (w : World) (hx : xs.length = len) (hlen : len ≤ 1000000) (hb : Bs w a xs) :
    Calls Try.prog 26 #[.slice a len cap] w fun e w' => e = .returned (.int .u16 (ofs xs)) ∧ w = w' := by
  obtain ⟨N, hN, hN'⟩ : ∃ N, len ≤ 2 * N ∧ 2 * N ≤ len + 1 := ⟨(len + 1) / 2, by omega, by omega⟩
  have HX := Lib.hid hx
  have HB := Lib.hid hb
  have hB : IsB xs := hb.2
  clear hx hb
  go_enter Try.func26, Try.ntmps26
  go_wp2_with fail
  go_loop [3, 4] (fun s i => ∃ k j : Nat, j = 2 * k ∧ k ≤ N ∧ i = .int .i64 j ∧ s = .int .u16 (nrm (tot (xs.take (2 * k))))) (fun _ i => len + 2 - (intOf i).toNat)
  case atStart => exact ⟨0, 0, rfl, by omega, rfl, by simp [tot, nrm]⟩
  case round =>
    obtain ⟨k, j, hj, hk, rfl, rfl⟩ := hrel
    have HJ := Lib.hid hj
    have hs := nrm_bd (tot_pos (isB_take hB (2 * k)))
    by_cases hlt : j < len
    · have hkN : k < N := by omega
      clear hj
      obtain ⟨b, off, ha, hc⟩ : ∃ b off, a = some ⟨b, off, none⟩ ∧ ∀ k, k < xs.length → w.cell? ⟨b, off + k, none⟩ = some (.int .u8 (xs.getD k 0)) := by
        rcases HB.out.1 with e | e
        · have := HX.out; rw [e] at this; simp at this; omega
        · exact e
      subst ha
      have c1 := hc j (by rw [HX.out]; exact hlt)
      have b1 := getD_bd hB j
      have HS := Lib.hid (nrm_step hB k)
      by_cases hl2 : j + 1 < len
      · have c2 := hc (j + 1) (by rw [HX.out]; exact hl2)
        have b2 := getD_bd hB (j + 1)
        have e1 : ((j : Int) + 1).toNat = j + 1 := by omega
        have ev : xs.getD j 0 * 256 + xs.getD (j + 1) 0 = wrd xs k := by rw [wrd, ← HJ.out]
        have EV := Lib.hid ev
        generalize nrm (tot (xs.take (2 * k))) = s at *
        generalize xs.getD j 0 = x1 at *
        generalize xs.getD (j + 1) 0 = x2 at *
        clear ev hc
        go_wp2_with (go_at_call 37; refine (rJoin s (x1 * 256 + x2) _ hs (by omega)).mono ?_; rintro e w' ⟨rfl, rfl⟩)
        go_round
        case rel => exact ⟨k + 1, j + 2, by have := HJ.out; omega, by omega, by go_num, by rw [EV.out, HS.out]⟩
        case measure => simp [intOf]; omega
      · have ev : xs.getD j 0 * 256 = wrd xs k := by
          have e0 : xs.getD (j + 1) 0 = 0 := by
            rw [List.getD_eq_getElem?_getD, List.getElem?_eq_none (by rw [HX.out]; omega)]; rfl
          rw [wrd, ← HJ.out, e0]; omega
        have EV := Lib.hid ev
        generalize nrm (tot (xs.take (2 * k))) = s at *
        generalize xs.getD j 0 = x1 at *
        clear ev hc
        go_wp2_with (go_at_call 37; refine (rJoin s (x1 * 256) _ hs (by omega)).mono ?_; rintro e w' ⟨rfl, rfl⟩)
        go_round
        case rel => exact ⟨k + 1, j + 2, by have := HJ.out; omega, by omega, by go_num, by rw [EV.out, HS.out]⟩
        case measure => simp [intOf]; omega
    · have hkN : k = N := by omega
      have hf : nrm (tot (xs.take (2 * k))) = nrm (tot xs) := by rw [tot_full xs (by rw [HX.out]; omega)]
      have HF := Lib.hid hf
      generalize nrm (tot (xs.take (2 * k))) = s at *
      have HK := Lib.hid hkN
      clear hkN hj hf
      go_wp2_with fail
      go_ret
      exact ⟨ret_int (by rw [HF.out]; rfl), rfl⟩
end Go.Proofs.Ythmejokjbkkfbaa
