/- What all laws of what is known ask first: the document's example. -/
import Derived.Test.YtllpmepmgnnoaaaGreatVm
import Derived.Test.YtllpmepmgnnoaaaGreatVo
import Derived.Test.YtllpmepmgnnoaaaGreatVq
namespace Go.Proofs.YtllpmepmgnnoaaaGreat
set_option linter.unusedVariables false
open Go.RowKit

theorem mk5 : mk [5] = [5] := by decide +kernel
theorem keep5 : keepS [] [5] 10 = [(5, 10)] := by decide +kernel
theorem hear5 : hearP 4009820675 10 2 false 0 [] 1 [5] = ⟨false, 0, [(5, 10)], [], 0⟩ := by
  unfold hearP
  rw [if_pos (.inl rfl)]
  unfold capH hAllow
  rw [mk5, keep5]
  rw [if_pos (by decide)]
theorem wants5 : wantsP false [(5, 10)] 5 = true := by decide +kernel
theorem wants6 : wantsP false [(5, 10)] 6 = false := by decide +kernel
theorem inc5 : Inc (ad [((5 : Int), (10 : Int))]) := by decide +kernel
set_option maxRecDepth 100000 in
set_option maxHeartbeats 8000000 in
theorem mShown (w : World) : Calls Tryz.prog 5 #[] w fun e w' => e = .returned (.bool true) ∧ Below w.heap.size w w' := by
  go_enter Tryz.func5, Tryz.ntmps5
  go_wp2_with fail
  have hb1 := bel1 w (.cells #[.int .i64 10, .int .i64 2] 23)
  have T1 := tim_new w (.int .i64 10) (.int .i64 2)
  have hN := as_new' (w.alloc (.cells #[.int .i64 10, .int .i64 2] 23)) [5] (isA_iff.2 (by simp))
  rw [World.size_alloc] at hN
  have hb2 := bel1 (w.alloc (.cells #[.int .i64 10, .int .i64 2] 23)) (.cells #[.int .u32 5] 25)
  have HB2 := Lib.hid (hb1.trans (hb2.mono hb1.size))
  have C0 := Lib.hid ((hb2.cell (cell_lt T1.1)).trans T1.1)
  have C1 := Lib.hid ((hb2.cell (cell_lt T1.2)).trans T1.2)
  have hc := mHear 1 10 2 4009820675 false 0 none 0 0 [] (some ⟨w.heap.size + 1, 0, none⟩) 1 1 [5] _ rfl (by decide) (Hs.nil _ _) (fun _ => rfl) inc_nil rfl (by decide) hN (fun e => by cases e) (by decide)
  rw [hear5] at hc
  clear hb1 T1 hN hb2
  refine hc.mono ?_
  rintro e w3 ⟨⟨a3, c3, aa, cc, rs, rfl, hH, hm, hq⟩, hb3⟩
  simp only at hH hm
  obtain rfl : rs = [] := List.map_eq_nil_iff.1 hm
  obtain ⟨b, off, rfl, hcs⟩ := hH.1.at (k := 0) (by decide)
  obtain ⟨h0, h1⟩ := hcs 0 (5, 10) rfl
  simp only [Nat.zero_mul, Nat.add_zero] at h0 h1
  have c0 := (hb3.cell (cell_lt C0.out)).trans C0.out
  have c1 := (hb3.cell (cell_lt C1.out)).trans C1.out
  have HB3 := Lib.hid (HB2.out.trans (hb3.mono HB2.out.size))
  have HH := Lib.hid hH.1
  clear hc hm hq hb3 hH hcs C0 C1 HB2
  have hb4 := bel1 w3 (.cells #[.int .u32 4009820675, .bool false, .int .i64 0, .slice (some ⟨b, off, none⟩) 1 c3] 28)
  have V4 := Lib.hid (MV.new w3 4009820675 false 0 (some ⟨b, off, none⟩) 1 c3)
  have C0 := Lib.hid ((hb4.cell (cell_lt c0)).trans c0)
  have C1 := Lib.hid ((hb4.cell (cell_lt c1)).trans c1)
  have HB4 := Lib.hid (HB3.out.trans (hb4.mono HB3.out.size))
  have HH4 := Lib.hid (HH.out.below hb4)
  have heq := heldEq 5 10 5 10
  replace h0 := (hb4.cell (cell_lt h0)).trans h0
  replace h1 := (hb4.cell (cell_lt h1)).trans h1
  clear hb4
  go_wp2_with fail
  have hw5 := mWants 4009820675 false 0 (some ⟨b, off, none⟩) 1 c3 [(5, 10)] 5 (w3.alloc (.cells #[.int .u32 4009820675, .bool false, .int .i64 0, .slice (some ⟨b, off, none⟩) 1 c3] 28)) rfl (by decide) HH4.out inc5 (by intro x hx; simp at hx; subst hx; decide)
  rw [wants5] at hw5
  refine hw5.mono ?_
  rintro e w5 ⟨rfl, hb5⟩
  clear hw5
  have V5 := Lib.hid (V4.out.below hb5 V4.out.lt)
  have D0 := Lib.hid ((hb5.cell (cell_lt C0.out)).trans C0.out)
  have D1 := Lib.hid ((hb5.cell (cell_lt C1.out)).trans C1.out)
  have HH5 := Lib.hid (HH4.out.below hb5)
  have HB5 := Lib.hid (HB4.out.trans (hb5.mono HB4.out.size))
  clear hb5 V4 C0 C1 HB4 HH4 h0 h1 c0 c1
  obtain ⟨c0, c1, c2, c3', -⟩ := V5.out.cells
  go_wp2_with fail
  have hw6 := mWants 4009820675 false 0 (some ⟨b, off, none⟩) 1 c3 [(5, 10)] 6 w5 rfl (by decide) HH5.out inc5 (by intro x hx; simp at hx; subst hx; decide)
  rw [wants6] at hw6
  refine hw6.mono ?_
  rintro e w6 ⟨rfl, hb6⟩
  clear hw6
  have V6 := Lib.hid (V5.out.below hb6 V5.out.lt)
  have E0 := Lib.hid ((hb6.cell (cell_lt D0.out)).trans D0.out)
  have E1 := Lib.hid ((hb6.cell (cell_lt D1.out)).trans D1.out)
  have HB6 := Lib.hid (HB5.out.trans (hb6.mono HB5.out.size))
  clear hb6 V5 D0 D1 HB5 HH5 c0 c1 c2 c3'
  obtain ⟨c0, c1, c2, c3', -⟩ := V6.out.cells
  go_wp2_with fail
  refine (mSome 4009820675 false 0 (some ⟨b, off, none⟩) 1 c3 w6).mono ?_
  rintro e w7 ⟨rfl, hb7⟩
  have F0 := Lib.hid ((hb7.cell (cell_lt E0.out)).trans E0.out)
  have F1 := Lib.hid ((hb7.cell (cell_lt E1.out)).trans E1.out)
  have HB7 := Lib.hid (HB6.out.trans (hb7.mono HB6.out.size))
  clear hb7 V6 E0 E1 HB6 c0 c1 c2 c3'
  have c0 := F0.out
  have c1 := F1.out
  go_wp2_with fail
  refine (mMay 10 2 w7).mono ?_
  rintro e w8 ⟨rfl, hb8⟩
  have HB8 := Lib.hid (HB7.out.trans (hb8.mono HB7.out.size))
  have hd : decide (mayP 10 2) = true := by decide
  clear hb8 c0 c1
  rw [hd]
  go_wp2_with fail
  go_ret
  exact ⟨rfl, HB8.out⟩
end Go.Proofs.YtllpmepmgnnoaaaGreat
