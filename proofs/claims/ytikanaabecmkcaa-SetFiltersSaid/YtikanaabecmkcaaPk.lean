/- What all laws of the sets ask first: the document's examples. -/
import Derived.Test.YtikanaabecmkcaaPj
namespace Go.Proofs.Ytikanaabecmkcaa
set_option linter.unusedVariables false
open Go.RowKit

theorem sh1 : mk [2] = [2] := by decide +kernel
theorem sh2 : int [1] [2] = [] := by decide +kernel
theorem sh3 : dif [1, 2] [2] = [1] := by decide +kernel
theorem sh4 : dif [1, 2, 3] [2, 4] = [1, 3] := by decide +kernel
theorem as_new (w : World) (xs : List Int) (h : IsA xs) : As (w.alloc (.cells (va xs).toArray 24)) (some ⟨w.heap.size, 0, none⟩) xs := by
  refine ⟨.inr ⟨_, 0, rfl, fun k hk => ?_⟩, h⟩
  have hN := Go.Deep.blk_alloc_new w (.cells (va xs).toArray 24)
  simp only [World.cell?, hN, Nat.zero_add]
  simp [va, List.getD_eq_getElem?_getD, hk]
set_option maxRecDepth 100000 in
set_option maxHeartbeats 4000000 in
theorem sShown (w : World) : Calls Try.prog 10 #[] w fun e w' => e = .returned (.bool true) ∧ Below w.heap.size w w' := by
  go_enter Try.func10, Try.ntmps10
  go_wp2_with fail
  have A0 : As (w.alloc (.cells #[.int .u32 1, .int .u32 2] 24)) (some ⟨w.heap.size, 0, none⟩) [1, 2] := as_new w [1, 2] (isA_iff.2 (by decide))
  have A1 : As ((w.alloc (.cells #[.int .u32 1, .int .u32 2] 24)).alloc (.cells #[.int .u32 2] 24)) (some ⟨w.heap.size + 1, 0, none⟩) [2] := by
    have h := as_new (w.alloc (.cells #[.int .u32 1, .int .u32 2] 24)) [2] (isA_iff.2 (by decide))
    rwa [World.size_alloc] at h
  have hFl : Fls (((w.alloc (.cells #[.int .u32 1, .int .u32 2] 24)).alloc (.cells #[.int .u32 2] 24)).alloc (.cells #[.bool true, .slice (some ⟨w.heap.size, 0, none⟩) 2 2, .bool false, .slice (some ⟨w.heap.size + 1, 0, none⟩) 1 1] 35)) (some ⟨w.heap.size + 1 + 1, 0, none⟩) [⟨true, [1, 2], some ⟨w.heap.size, 0, none⟩, 2⟩, ⟨false, [2], some ⟨w.heap.size + 1, 0, none⟩, 1⟩] := by
    have hN := Go.Deep.blk_alloc_new ((w.alloc (.cells #[.int .u32 1, .int .u32 2] 24)).alloc (.cells #[.int .u32 2] 24)) (.cells #[.bool true, .slice (some ⟨w.heap.size, 0, none⟩) 2 2, .bool false, .slice (some ⟨w.heap.size + 1, 0, none⟩) 1 1] 35)
    rw [World.size_alloc, World.size_alloc] at hN
    refine .inr ⟨_, 0, rfl, fun k f hk => ?_⟩
    match k, hk with
    | 0, hk =>
      cases hk
      refine ⟨⟨by simp only [World.cell?, hN]; rfl, by simp only [World.cell?, hN]; rfl⟩, (A0.below (bel1 _ _)).below (bel1 _ _), fun e => by cases e⟩
    | 1, hk =>
      cases hk
      refine ⟨⟨by simp only [World.cell?, hN]; rfl, by simp only [World.cell?, hN]; rfl⟩, A1.below (bel1 _ _), fun e => by cases e⟩
  have hf := sFilter (some ⟨w.heap.size + 1 + 1, 0, none⟩) 2 2 _ _ rfl ⟨by simp, by intro f hf; simp at hf; rcases hf with rfl | rfl <;> simp⟩ hFl
  have e0 : flt [⟨true, [1, 2], some ⟨w.heap.size, 0, none⟩, 2⟩, ⟨false, [2], some ⟨w.heap.size + 1, 0, none⟩, 1⟩] = (true, [1]) := by
    show (true, dif [1, 2] (mk [2])) = _
    rw [sh1, sh3]
  rw [e0] at hf
  refine hf.mono ?_
  have hb0 : Below w.heap.size w (((w.alloc (.cells #[.int .u32 1, .int .u32 2] 24)).alloc (.cells #[.int .u32 2] 24)).alloc (.cells #[.bool true, .slice (some ⟨w.heap.size, 0, none⟩) 2 2, .bool false, .slice (some ⟨w.heap.size + 1, 0, none⟩) 1 1] 35)) := ((bel1 w _).alloc (by simp) _).alloc (by simp; omega) _
  generalize ((w.alloc (.cells #[.int .u32 1, .int .u32 2] 24)).alloc (.cells #[.int .u32 2] 24)).alloc (.cells #[.bool true, .slice (some ⟨w.heap.size, 0, none⟩) 2 2, .bool false, .slice (some ⟨w.heap.size + 1, 0, none⟩) 1 1] 35) = w1 at *
  clear hf e0 A0 A1 hFl
  rintro e w2 ⟨⟨a, c, rfl, hA, hfl⟩, hB⟩
  have HA := Lib.hid hA
  have HB := Lib.hid (hb0.trans (hB.mono hb0.size))
  clear hA hfl hB hb0
  simp only [List.length_cons, List.length_nil, Nat.zero_add]
  go_wp2_with fail
  obtain ⟨b, off, rfl, hc⟩ : ∃ b off, a = some ⟨b, off, none⟩ ∧ w2.cell? ⟨b, off, none⟩ = some (.int .u32 1) := by
    rcases HA.out.1 with e | ⟨b, off, e, hc⟩
    · cases e
    · exact ⟨b, off, e, hc 0 (by simp)⟩
  have hN := Go.Deep.blk_alloc_new w2 (.cells #[.bool true, .slice (some ⟨b, off, none⟩) 1 c] 35)
  have c0 : (w2.alloc (.cells #[.bool true, .slice (some ⟨b, off, none⟩) 1 c] 35)).cell? ⟨w2.heap.size, 0, none⟩ = some (.bool true) := by simp only [World.cell?, hN]; rfl
  have c1 : (w2.alloc (.cells #[.bool true, .slice (some ⟨b, off, none⟩) 1 c] 35)).cell? ⟨w2.heap.size, 1, none⟩ = some (.slice (some ⟨b, off, none⟩) 1 c) := by simp only [World.cell?, hN]; rfl
  have c2 : (w2.alloc (.cells #[.bool true, .slice (some ⟨b, off, none⟩) 1 c] 35)).cell? ⟨b, off, none⟩ = some (.int .u32 1) := ((bel1 w2 _).cell (cell_lt hc)).trans hc
  have hA2 : As (w2.alloc (.cells #[.bool true, .slice (some ⟨b, off, none⟩) 1 c] 35)) (some ⟨b, off, none⟩) [1] := HA.out.below (bel1 w2 _)
  have hb2 : Below w.heap.size w (w2.alloc (.cells #[.bool true, .slice (some ⟨b, off, none⟩) 1 c] 35)) := HB.out.trans ((bel1 w2 _).mono HB.out.size)
  have hs2 : (w2.alloc (.cells #[.bool true, .slice (some ⟨b, off, none⟩) 1 c] 35)).heap.size = w2.heap.size + 1 := World.size_alloc _ _
  rw [← hs2]
  generalize w2.alloc (.cells #[.bool true, .slice (some ⟨b, off, none⟩) 1 c] 35) = w3 at *
  clear hN hc HA HB
  have hA3 : As (w3.alloc (.cells #[.int .u32 1, .int .u32 2, .int .u32 3] 24)) (some ⟨w3.heap.size, 0, none⟩) [1, 2, 3] := as_new w3 [1, 2, 3] (isA_iff.2 (by decide))
  have hA4 : As ((w3.alloc (.cells #[.int .u32 1, .int .u32 2, .int .u32 3] 24)).alloc (.cells #[.int .u32 2, .int .u32 4] 24)) (some ⟨w3.heap.size + 1, 0, none⟩) [2, 4] := by
    have h := as_new (w3.alloc (.cells #[.int .u32 1, .int .u32 2, .int .u32 3] 24)) [2, 4] (isA_iff.2 (by decide))
    rwa [World.size_alloc] at h
  have hm := sMinus (some ⟨w3.heap.size, 0, none⟩) (some ⟨w3.heap.size + 1, 0, none⟩) 3 2 3 2 [1, 2, 3] [2, 4] _ rfl rfl (by omega) (by omega) (hA3.below (bel1 _ _)) hA4
  rw [sh4] at hm
  have HM := Lib.hid hm
  have hb4 : Below w3.heap.size w3 ((w3.alloc (.cells #[.int .u32 1, .int .u32 2, .int .u32 3] 24)).alloc (.cells #[.int .u32 2, .int .u32 4] 24)) := (bel1 w3 _).alloc (by simp) _
  clear hA3 hA4 hm
  generalize (w3.alloc (.cells #[.int .u32 1, .int .u32 2, .int .u32 3] 24)).alloc (.cells #[.int .u32 2, .int .u32 4] 24) = w4 at *
  refine HM.out.mono ?_
  rintro e w5 ⟨⟨a5, cc, rfl, hA5, hfl5⟩, hB5⟩
  have hb5 := hb4.trans (hB5.mono hb4.size)
  clear HM hb4 hB5 hfl5
  have HA5 := Lib.hid hA5
  have HB5 := Lib.hid hb5
  have c0 := (HB5.out.cell (cell_lt c0)).trans c0
  have c1 := (HB5.out.cell (cell_lt c1)).trans c1
  have c2 := (HB5.out.cell (cell_lt c2)).trans c2
  have hA2 := hA2.below HB5.out
  have hb2 := hb2.trans (HB5.out.mono hb2.size)
  clear hA5 hb5 HB5 hs2
  simp only [List.length_cons, List.length_nil, Nat.zero_add]
  go_wp2_with fail
  have hA6 : As (w5.alloc (.cells #[.int .u32 1, .int .u32 3] 24)) (some ⟨w5.heap.size, 0, none⟩) [1, 3] := as_new w5 [1, 3] (isA_iff.2 (by decide))
  have hs := sSame a5 (some ⟨w5.heap.size, 0, none⟩) 2 2 cc 2 [1, 3] [1, 3] _ rfl rfl (by omega) (HA5.out.below (bel1 _ _)) hA6
  have HS := Lib.hid hs
  have c0 := ((bel1 w5 (.cells #[.int .u32 1, .int .u32 3] 24)).cell (cell_lt c0)).trans c0
  have c1 := ((bel1 w5 (.cells #[.int .u32 1, .int .u32 3] 24)).cell (cell_lt c1)).trans c1
  have c2 := ((bel1 w5 (.cells #[.int .u32 1, .int .u32 3] 24)).cell (cell_lt c2)).trans c2
  have hA2 := hA2.below (bel1 w5 (.cells #[.int .u32 1, .int .u32 3] 24))
  have hb2 := hb2.trans ((bel1 w5 (.cells #[.int .u32 1, .int .u32 3] 24)).mono hb2.size)
  clear hA6 hs HA5
  generalize w5.alloc (.cells #[.int .u32 1, .int .u32 3] 24) = w6 at *
  refine HS.out.mono ?_
  rintro e w7 ⟨rfl, hB7⟩
  have c0 := (hB7.cell (cell_lt c0)).trans c0
  have c1 := (hB7.cell (cell_lt c1)).trans c1
  have c2 := (hB7.cell (cell_lt c2)).trans c2
  have HA7 := Lib.hid (hA2.below hB7)
  have HB7 := Lib.hid (hb2.trans (hB7.mono hb2.size))
  clear HS hB7 hA2 hb2
  rw [show decide ([(1 : Int), 3] = [1, 3]) = true from by decide]
  go_wp2_with fail
  refine (sWants true (some ⟨b, off, none⟩) 1 c [1] 2 _ rfl (by omega) HA7.out).mono ?_
  rintro e w8 ⟨rfl, hB8⟩
  rw [show (decide ((2 : Int) ∈ [(1 : Int)]) != true) = true from by decide]
  have c0 := (hB8.cell (cell_lt c0)).trans c0
  have c1 := (hB8.cell (cell_lt c1)).trans c1
  have HA8 := Lib.hid (HA7.out.below hB8)
  have HB8 := Lib.hid (HB7.out.trans (hB8.mono HB7.out.size))
  clear hB8 HA7 HB7
  go_wp2_with fail
  refine (sWants true (some ⟨b, off, none⟩) 1 c [1] 1 _ rfl (by omega) HA8.out).mono ?_
  rintro e w9 ⟨rfl, hB9⟩
  rw [show (decide ((1 : Int) ∈ [(1 : Int)]) != true) = false from by decide]
  have HB9 := Lib.hid (HB8.out.trans (hB9.mono HB8.out.size))
  clear hB9
  go_wp2_with fail
  go_ret
  exact ⟨rfl, HB9.out⟩
end Go.Proofs.Ytikanaabecmkcaa
