/- The document's example (stolonlaw05.shown). -/
import Derived.Test.YtmcnanoamgkljaaQ0
import Derived.Test.YtmcnanoamgkljaaQ1
import Derived.Test.YtmcnanoamgkljaaQ2
import Derived.Test.YtmcnanoamgkljaaQ3
import Derived.Test.YtmcnanoamgkljaaQ4
import Derived.Test.YtmcnanoamgkljaaQ5
import Derived.Test.YtmcnanoamgkljaaQ6
import Derived.Test.YtmcnanoamgkljaaQ7
import Derived.Test.YtmcnanoamgkljaaQ8
import Derived.Test.YtmcnanoamgkljaaQ9
import Derived.Test.YtmcnanoamgkljaaQ10
namespace Go.Proofs.Ytmcnanoamgkljaa
set_option linter.unusedVariables false
open Go.RowKit

/-- The example's message. -/
def mS : Msg := ⟨22, 0, 0, 4009820675, false, 0, 0, [], []⟩
def L8 : List Int := [22, 0, 248, 250, 239, 1, 2, 3]
theorem encS : encM mS = L8 := by rfl
theorem decES : decE L8 = 0 := by rfl
theorem decMS : decM L8 = mS := by rfl
theorem rightS : right mS = true := by rfl
theorem fitS : mS.fit := ⟨by simp [mS, Msg.ok], isA_nil, fun r hr => by simp [mS] at hr⟩
theorem isB8 : IsB L8 := by
  intro k hk
  have : k < 8 := hk
  match k, this with
  | 0, _ => decide
  | 1, _ => decide
  | 2, _ => decide
  | 3, _ => decide
  | 4, _ => decide
  | 5, _ => decide
  | 6, _ => decide
  | 7, _ => decide
theorem msS (w : World) : Ms w mS none none := ⟨As.nil _ _, Rs.nil _ _, fitS.1⟩
theorem same_refl (xs : List Int) : SameB xs xs = true := decide_eq_true rfl

theorem bs8 (w : World) (o : Obj) : Bs ((w.alloc o).alloc (.cells #[.int .u8 22, .int .u8 0, .int .u8 248, .int .u8 250, .int .u8 239, .int .u8 1, .int .u8 2, .int .u8 3] 5)) (some ⟨w.heap.size + 1, 0, none⟩) L8 := by
  have h := (Ob.of_heap (xs := L8) (Go.Deep.blk_alloc_new (w.alloc o) (.cells (vb L8).toArray 5))).bs isB8
  rwa [show (w.alloc o).heap.size = w.heap.size + 1 by simp] at h
set_option maxHeartbeats 2000000 in
theorem iShown (w : World) :
    Calls Try.prog 11 #[] w fun e w' => e = .returned (.bool true) ∧ Below w.heap.size w w' := by
  go_enter Try.func11, Try.ntmps11
  go_wp2_with fail
  refine (gEncode_ok mS none none 0 0 w (msS _) fitS rightS).mono ?_
  rintro e w1 ⟨g1, rfl, ho1, hg1, hb1⟩
  rw [encS] at ho1
  rw [show (enc0 mS).length = 8 from rfl]
  have HO1 := Lib.hid (ho1.bs isB8)
  have HB1 := Lib.hid hb1
  clear ho1 hg1 hb1
  go_wp2_with fail
  refine (gDecode (some ⟨g1, 0, none⟩) 8 8 L8 w1 rfl (by omega) (by omega) HO1.out).mono ?_
  rintro e w2 ⟨sa, sc, ra, rc, rfl, hms, hb2⟩
  rw [decMS] at hms
  rw [decMS, decES]
  simp only [mS, List.length_nil]
  have HMS := Lib.hid hms
  have HB2 := Lib.hid (HB1.out.trans (hb2.mono HB1.out.size))
  have HO2 := Lib.hid (bs_below HO1.out hb2)
  clear hms hb2
  have MB2 := MB.new w2 (.int .u8 22) (.int .i64 0) (.int .u8 0) (.int .u32 4009820675) (.bool false) (.int .u8 0) (.int .u8 0) (.slice sa 0 sc) (.slice ra 0 rc)
  have MB3 := Lib.hid (MB2.keep (Below.heap_alloc _ (.cells #[.int .u8 22, .int .u8 0, .int .u8 248, .int .u8 250, .int .u8 239, .int .u8 1, .int .u8 2, .int .u8 3] 5) _ MB2.lt))
  clear MB2
  go_wp2_with fail
  refine (rSame (some ⟨g1, 0, none⟩) (some ⟨w2.heap.size + 1, 0, none⟩) 8 8 8 8 L8 L8 _ rfl rfl (by omega) (bs_below HO2.out (bel2 _ _ _)) (bs8 _ _)).mono ?_
  rintro e w3 ⟨rfl, hb3⟩
  rw [same_refl]
  have MB4 := Lib.hid (MB3.out.below hb3 MB3.out.lt)
  have HB3 := Lib.hid (HB2.out.trans (((bel2 w2 _ _).trans (hb3.mono (bel2 w2 _ _).size)).mono HB2.out.size))
  have HMS3 := Lib.hid (HMS.out.below ((bel2 w2 _ _).trans (hb3.mono (bel2 w2 _ _).size)))
  obtain ⟨y0, y1, y2, y3, y4, y5, y6, y7, y8, -⟩ := MB4.out.cells
  clear hb3
  go_wp2_with fail
  refine (gRight mS sa ra sc rc _ HMS3.out).mono ?_
  rintro e w4 ⟨rfl, hb4⟩
  rw [rightS]
  have HB4 := Lib.hid (HB3.out.trans (hb4.mono HB3.out.size))
  clear hb4
  go_wp2
  go_ret
  exact ⟨rfl, HB4.out⟩
end Go.Proofs.Ytmcnanoamgkljaa
