/- What the laws of stage 2 share: the document's example. -/
import Derived.Test.YtinpeblpmmmdeaaSd
import Derived.Test.YtinpeblpmmmdeaaSf
import Derived.Test.YtinpeblpmmmdeaaFb
namespace Go.Proofs.Ytinpeblpmmmdeaa
set_option linter.unusedVariables false
open Go.RowKit

/-- Put where there is a place. -/
theorem sPutK (a : Option Addr) (n cap : Nat) (at' : Int) (xs : List Int) (w : World) (hn : n ≤ 1000000) (hx : xs.length = n) (hb : Bs w a xs) (k : Nat) (e : at' = k) (he : k % 2 = 0) (hk : k + 2 ≤ n) :
    Calls Try.prog 10 #[.slice a n cap, .int .i64 at'] w fun e w' => ∃ g, e = .returned (.tuple #[.slice (some ⟨g, 0, none⟩) n n, .int .i64 0]) ∧ Ob w' g (putS xs k) ∧ w.heap.size ≤ g ∧ Below w.heap.size w w' := by
  subst e; exact sPut_ok a n cap k xs w hn hx hb he hk
theorem new4 (W : World) (x0 x1 x2 x3 : Int) (h0 : 0 ≤ x0 ∧ x0 ≤ 255) (h1 : 0 ≤ x1 ∧ x1 ≤ 255) (h2 : 0 ≤ x2 ∧ x2 ≤ 255) (h3 : 0 ≤ x3 ∧ x3 ≤ 255) : Ob (W.alloc (.cells #[.int .u8 x0, .int .u8 x1, .int .u8 x2, .int .u8 x3] 5)) W.heap.size [x0, x1, x2, x3] ∧ IsB [x0, x1, x2, x3] :=
  ⟨Ob.of_heap (World.alloc_heap_new _ _), isB_cons.2 ⟨h0, isB_cons.2 ⟨h1, isB_cons.2 ⟨h2, isB_cons.2 ⟨h3, isB_nil⟩⟩⟩⟩⟩

set_option maxHeartbeats 1000000 in
theorem sShown (w : World) :
    Calls Try.prog 9 #[] w fun e w' => e = .returned (.bool true) ∧ Below w.heap.size w w' := by
  have n1 := new4 w 0 0 1 2 (by omega) (by omega) (by omega) (by omega)
  have N1 := Lib.hid (n1.1.bs n1.2)
  have HB0 := Lib.hid ((Below.refl w.heap.size w).alloc (Nat.le_refl _) (.cells #[.int .u8 0, .int .u8 0, .int .u8 1, .int .u8 2] 5))
  have E1 := Lib.hid (ofs_putS n1.2 (k := 0) rfl (by decide))
  have I1 := Lib.hid (isB_putS n1.2 0)
  clear n1
  go_enter Try.func9, Try.ntmps9
  go_wp2_with fail
  refine (sPutK _ 4 _ 0 [0, 0, 1, 2] _ (by omega) rfl N1.out 0 rfl rfl (by omega)).mono ?_
  rintro e w1 ⟨g, rfl, ob1, hg1, hb1⟩
  have OB1 := Lib.hid ob1
  have HB1 := Lib.hid (HB0.out.trans (hb1.mono HB0.out.size))
  clear ob1 hb1 hg1
  go_wp2_with fail
  have n2 := new4 w1 0 1 242 3 (by omega) (by omega) (by omega) (by omega)
  have N2 := Lib.hid (n2.1.bs n2.2)
  clear n2
  have HB2 := Lib.hid (HB1.out.alloc HB1.out.size (.cells #[.int .u8 0, .int .u8 1, .int .u8 242, .int .u8 3] 5))
  have OB2 := Lib.hid (OB1.out.alloc (.cells #[.int .u8 0, .int .u8 1, .int .u8 242, .int .u8 3] 5))
  refine (sOf _ 4 _ [0, 1, 242, 3] _ rfl (by omega) N2.out).mono ?_
  rintro e w3 ⟨rfl, hb3⟩
  have HB3 := Lib.hid (HB2.out.trans (hb3.mono HB2.out.size))
  have OB3 := Lib.hid (OB2.out.below hb3 OB2.out.lt)
  clear hb3
  rw [show ofs [0, 1, 242, 3] = 3579 by decide]
  go_wp2_with fail
  refine (sWhole _ 4 4 (putS [0, 0, 1, 2] 0) w3 rfl (by omega) (OB3.out.bs I1.out)).mono ?_
  rintro e w4 ⟨rfl, hb4⟩
  have HB4 := Lib.hid (HB3.out.trans (hb4.mono HB3.out.size))
  clear hb4
  rw [E1.out]
  go_wp2_with (go_at_call 16; refine (sJoin 65535 1 _ (by omega) (by omega)).mono ?_; rintro e w' ⟨rfl, rfl⟩)
  go_ret
  exact ⟨rfl, HB4.out⟩
end Go.Proofs.Ytinpeblpmmmdeaa
