/- Contracts of package ip: what is wrong with a frame, whatever it is. -/
import Derived.Test.YthmejokjbkkfbaaIf
import Derived.Test.YthmejokjbkkfbaaIg
namespace Go.Proofs.Ythmejokjbkkfbaa
set_option linter.unusedVariables false
open Go.RowKit

theorem iFault (a : Option Addr) (n c : Nat) (xs : List Int) (w : World) (hx : xs.length = n) (hn : n ≤ 1000000) (hnc : n ≤ c) (hb : Bs w a xs) :
    Calls Try.prog 23 #[.slice a n c] w fun e w' => e = .returned (.int .i64 (fault xs)) ∧ Below w.heap.size w w' := by
  by_cases h20 : n < 20
  · have e : fault xs = 3 := by unfold fault; rw [if_pos (by omega)]
    rw [e]; exact iFault1 a n c w h20
  obtain ⟨b, off, rfl⟩ := bs_at hb (by omega)
  have h20' : 20 ≤ n := by omega
  unfold fault
  rw [if_neg (by omega)]
  by_cases h69 : xs.getD 0 0 = 69
  · have hal : al0 xs = false := by unfold al0; rw [h69]; rfl
    have hs : hsz (al0 xs) = 20 := by rw [hal]; rfl
    rw [hs, if_neg (fun e => e (.inl h69)), if_neg (by omega)]
    by_cases h4 : ofs (xs.take 20) = 0
    case neg => rw [if_pos h4]; exact iFault4_20 b off n c xs w hx hn hnc h20' h69 hb h20' h4
    rw [if_neg (fun e => e h4)]
    by_cases h5 : formOk xs
    case neg => rw [if_pos h5]; exact iFault5_20 b off n c xs w hx hn hnc h20' h69 hb h20' h4 h5
    rw [if_neg (fun e => e h5)]
    by_cases h6 : xs.length < all0 xs
    · rw [if_pos h6]; exact iFault6_20 b off n c xs w hx hn hnc h20' h69 hb h20' h4 h5 (by omega)
    rw [if_neg h6]
    by_cases h7 : putS (xs.take 20) 10 = xs.take 20
    case neg => rw [if_pos h7]; exact iFault7_20 b off n c xs w hx hn hnc h20' h69 hb h20' h4 h5 (by omega) h7
    rw [if_neg (fun e => e h7)]
    exact iFault8_20 b off n c xs w hx hn hnc h20' h69 hb h20' h4 h5 (by omega) h7
  · by_cases h70 : xs.getD 0 0 = 70
    · have hal : al0 xs = true := by unfold al0; rw [h70]; rfl
      have hs : hsz (al0 xs) = 24 := by rw [hal]; rfl
      rw [hs, if_neg (fun e => e (.inr h70))]
      by_cases h3 : xs.length < 24
      · rw [if_pos h3]; exact iFault3_24 b off n c xs w hx hn hnc h20' h70 hb (by omega)
      rw [if_neg h3]
      have h24 : 24 ≤ n := by omega
      by_cases h4 : ofs (xs.take 24) = 0
      case neg => rw [if_pos h4]; exact iFault4_24 b off n c xs w hx hn hnc h20' h70 hb h24 h4
      rw [if_neg (fun e => e h4)]
      by_cases h5 : formOk xs
      case neg => rw [if_pos h5]; exact iFault5_24 b off n c xs w hx hn hnc h20' h70 hb h24 h4 h5
      rw [if_neg (fun e => e h5)]
      by_cases h6 : xs.length < all0 xs
      · rw [if_pos h6]; exact iFault6_24 b off n c xs w hx hn hnc h20' h70 hb h24 h4 h5 (by omega)
      rw [if_neg h6]
      by_cases h7 : putS (xs.take 24) 10 = xs.take 24
      case neg => rw [if_pos h7]; exact iFault7_24 b off n c xs w hx hn hnc h20' h70 hb h24 h4 h5 (by omega) h7
      rw [if_neg (fun e => e h7)]
      exact iFault8_24 b off n c xs w hx hn hnc h20' h70 hb h24 h4 h5 (by omega) h7
    · rw [if_pos (fun e => e.elim h69 h70)]
      exact iFault2 b off n c xs w hx h20' hb h69 h70
end Go.Proofs.Ythmejokjbkkfbaa
