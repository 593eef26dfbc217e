/- Contracts of package ip: Decode. -/
import Derived.Test.YthmejokjbkkfbaaIh
import Derived.Test.YthmejokjbkkfbaaHb
namespace Go.Proofs.Ythmejokjbkkfbaa
set_option linter.unusedVariables false
open Go.RowKit

set_option maxHeartbeats 1000000 in
theorem iDecode_no (a : Option Addr) (n c : Nat) (xs : List Int) (w : World) (hx : xs.length = n) (hn : n ≤ 1000000) (hnc : n ≤ c) (hb : Bs w a xs) (k : Int) (hk : fault xs = k) (h0 : k ≠ 0) :
    Calls Try.prog 12 #[.slice a n c] w fun e w' => e = .returned (.tuple #[.agg #[.int .u32 0, .int .u32 0, .int .u8 0, .int .u8 0, .int .u16 0, .bool false], .slice none 0 0, .int .i64 k]) ∧ Below w.heap.size w w' := by
  have e5 : (k != 0) = true := by rw [bne_iff_ne]; exact h0
  have HX := Lib.hid hx
  have HB := Lib.hid hb
  have HK := Lib.hid hk
  have HBX := Lib.hid (HBox.new w hz)
  clear hx hb hk h0
  go_enter Try.func12, Try.ntmps12
  go_wp2_with (go_at_call 23; refine (iFault a n c xs _ HX.out hn hnc (bs_below HB.out ((Below.refl _ w).alloc (Nat.le_refl _) _))).mono ?_; rintro e w1 ⟨rfl, hb1⟩; rw [HK.out]; have HB1 := Lib.hid hb1; obtain ⟨c0, c1, c2, c3, c4, c5⟩ := (HBX.out.keep hb1).cells; have fz := (HBX.out.keep hb1).frozen; clear hb1)
  have hs := ((HBX.out.keep HB1.out).store hz)
  have hb2 := below_store (((Below.refl _ w).alloc (Nat.le_refl _) _).trans (HB1.out.mono (by simp))) (Nat.le_refl w.heap.size) (.int .u32 0) (.int .u32 0) (.int .u8 0) (.int .u8 0) (.int .u16 0) (.bool false)
  exact ret_cell (p := 2) (u := 3) (v := 4) rfl rfl rfl hs.load ⟨rfl, hb2⟩
end Go.Proofs.Ythmejokjbkkfbaa
