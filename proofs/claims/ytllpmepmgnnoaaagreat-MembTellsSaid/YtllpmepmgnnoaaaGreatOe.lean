/- The library's sort of a slice. -/
import Derived.Test.YtllpmepmgnnoaaaGreatOd
import Derived.Test.YtllpmepmgnnoaaaGreatShelf
namespace Go.Proofs.YtllpmepmgnnoaaaGreat
set_option linter.unusedVariables false
open Go.RowKit
open Go.Sort (PermIn)

set_option maxHeartbeats 1000000 in
/-- .. of none. -/
theorem sIns0 (a : Option Addr) (cap : Nat) (w : World) : Calls Tryz.prog 79 #[.slice a 0 cap, .int .i64 0, .int .i64 0] w fun e w' => e = .returned (.tuple #[]) ∧ w' = w := by
  go_enter Tryz.func79, Tryz.ntmps79
  go_wp2
  refine wp_loop_rounds 1 ?_
  rw [rounds_succ]
  go_wp2
  go_end0
  exact ⟨rfl, rfl⟩
set_option maxRecDepth 100000 in
set_option maxHeartbeats 1000000 in
theorem sPdq0 (a : Option Addr) (cap : Nat) (lim : Int) (w : World) : Calls Tryz.prog 66 #[.slice a 0 cap, .int .i64 0, .int .i64 0, .int .i64 lim] w fun e w' => e = .returned (.tuple #[]) ∧ w' = w := by
  go_enter Tryz.func66, Tryz.ntmps66
  go_wp2
  refine wp_loop_rounds 1 ?_
  rw [rounds_succ]
  go_wp2_with (go_at_call 79; refine (sIns0 _ _ _).mono ?_; rintro e w1 ⟨rfl, rfl⟩)
  (try simp only [Exit.inBlock, Exit.then]); refine bodyPost_ret (results_none rfl _ _ _) rfl ?_
  exact ⟨rfl, rfl⟩
theorem sSort0 (a : Option Addr) (cap : Nat) (w : World) : Calls Tryz.prog 49 #[.slice a 0 cap] w fun e w' => e = .returned (.tuple #[]) ∧ w' = w := by
  go_enter Tryz.func49, Tryz.ntmps49
  go_wp2_with (first | (go_at_call 67; refine (Tryz.bits_Len 0 _ (by omega) (by omega)).mono ?_; rintro e w1 ⟨rfl, rfl⟩) | (go_at_call 66; refine (sPdq0 _ _ _ _).mono ?_; rintro e w1 ⟨rfl, rfl⟩))
  go_end0
  exact ⟨rfl, rfl⟩
theorem bl_le : ∀ f x : Nat, Lib.bitLenAux f x ≤ f
  | 0, _ => by simp [Lib.bitLenAux]
  | f + 1, x => by
    rw [Lib.bitLenAux]
    split
    · omega
    · have := bl_le f (x / 2); omega
theorem bitLen_small (n : Nat) : Lib.bitLen n < 1152921504606846976 := by
  have := bl_le 64 n
  unfold Lib.bitLen
  omega
theorem sSort (g off cap n : Nat) (d : Array Int) (w : World) (h : Arr w g off d) (hn : d.size = n) (hm : n ≤ 1000000) :
    Calls Tryz.prog 49 #[.slice (some ⟨g, off, none⟩) n cap] w fun e w' => e = .returned (.tuple #[]) ∧ ∃ d', (PermIn 0 n d d' ∧ Srt 0 n d') ∧ Arr w' g off d' ∧ But1 g w w' := by
  have HA := Lib.hid h
  have hbl := bitLen_small n
  have h64 := (Tryz.bits_Len (n : Int) w (by omega) (by omega))
  rw [Int.toNat_natCast] at h64
  have H64 := Lib.hid h64
  have HBL := Lib.hid hbl
  clear h h64 hbl
  have hw : IntKind.u64.wrap (n : Int) = (n : Int) := by rw [IntKind.wrap_u64]; omega
  go_enter Tryz.func49, Tryz.ntmps49
  go_wp2_with fail
  refine H64.out.mono ?_
  rintro e w1 ⟨rfl, rfl⟩
  go_wp2_with fail
  refine (sPdq (n + 1) g off cap 0 n (Lib.bitLen n) n d _ (by omega) HA.out hn (by omega) (Nat.le_refl _) (by omega) HBL.out (.inl rfl)).mono ?_
  rintro e w2 ⟨rfl, d', hd, hA, hB⟩
  have HD := Lib.hid hd
  have HA2 := Lib.hid hA
  have HB2 := Lib.hid hB
  clear hd hA hB
  go_wp2
  go_end0
  exact ⟨rfl, d', HD.out, HA2.out, HB2.out⟩
end Go.Proofs.YtllpmepmgnnoaaaGreat
