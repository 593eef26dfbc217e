/- What all laws of what is known ask first: the document's example. -/
import Derived.Test.YtiabbkjmgaemaaaGreatDB0
import Derived.Test.YtiabbkjmgaemaaaGreatDB1
import Derived.Test.YtiabbkjmgaemaaaGreatDB2
import Derived.Test.YtiabbkjmgaemaaaGreatDB3
import Derived.Test.YtiabbkjmgaemaaaGreatDB4
import Derived.Test.YtiabbkjmgaemaaaGreatDB5
import Derived.Test.YtiabbkjmgaemaaaGreatDB6
import Derived.Test.YtiabbkjmgaemaaaGreatDB7
import Derived.Test.YtiabbkjmgaemaaaGreatDB8
import Derived.Test.YtiabbkjmgaemaaaGreatDB9
import Derived.Test.YtiabbkjmgaemaaaGreatDB10
import Derived.Test.YtiabbkjmgaemaaaGreatDB11
import Derived.Test.YtiabbkjmgaemaaaGreatDB12
namespace Go.Proofs.YtiabbkjmgaemaaaGreat
set_option linter.unusedVariables false
open Go.RowKit

theorem mk5 : mk [5] = [5] := by decide +kernel
theorem keep5 : keepS [] [5] 10 = [(5, 10)] := by decide +kernel
theorem hear5 : hearP 4009820675 10 2 false 0 [] 1 [5] = ⟨false, 0, [(5, 10)], [], 0⟩ := by
  unfold hearP
  rw [if_pos (.inl rfl)]
  unfold capH hAllow
  rw [mk5, keep5]
  rw [if_pos (by decide)]
theorem wants5 : wantsP false [(5, 10)] 5 = true := by decide +kernel
theorem wants6 : wantsP false [(5, 10)] 6 = false := by decide +kernel
theorem inc5 : Inc (ad [((5 : Int), (10 : Int))]) := by decide +kernel
set_option maxRecDepth 100000 in
set_option maxHeartbeats 8000000 in
theorem mShown (w : World) : Calls Tryz.prog 11 #[] w fun e w' => e = .returned (.bool true) ∧ Below w.heap.size w w' := by
  go_enter Tryz.func11, Tryz.ntmps11
  go_wp2_with fail
  have hb1 := bel1 w (.cells #[.int .i64 10, .int .i64 2] 23)
  have T1 := tim_new w (.int .i64 10) (.int .i64 2)
  have hN := as_new' (w.alloc (.cells #[.int .i64 10, .int .i64 2] 23)) [5] (isA_iff.2 (by simp))
  rw [World.size_alloc] at hN
  have hb2 := bel1 (w.alloc (.cells #[.int .i64 10, .int .i64 2] 23)) (.cells #[.int .u32 5] 25)
  have HB2 := Lib.hid (hb1.trans (hb2.mono hb1.size))
  have C0 := Lib.hid ((hb2.cell (cell_lt T1.1)).trans T1.1)
  have C1 := Lib.hid ((hb2.cell (cell_lt T1.2)).trans T1.2)
  have hc := mHear 1 10 2 4009820675 false 0 none 0 0 [] (some ⟨w.heap.size + 1, 0, none⟩) 1 1 [5] _ rfl (by decide) (Hs.nil _ _) (fun _ => rfl) inc_nil rfl (by decide) hN (fun e => by cases e) (by decide)
  rw [hear5] at hc
  clear hb1 T1 hN hb2
  refine hc.mono ?_
  rintro e w3 ⟨⟨a3, c3, aa, cc, rs, rfl, hH, hm, hq⟩, hb3⟩
  simp only at hH hm
  obtain rfl : rs = [] := List.map_eq_nil_iff.1 hm
  obtain ⟨b, off, rfl, hcs⟩ := hH.1.at (k := 0) (by decide)
  obtain ⟨h0, h1⟩ := hcs 0 (5, 10) rfl
  simp only [Nat.zero_mul, Nat.add_zero] at h0 h1
  have c0 := (hb3.cell (cell_lt C0.out)).trans C0.out
  have c1 := (hb3.cell (cell_lt C1.out)).trans C1.out
  have HB3 := Lib.hid (HB2.out.trans (hb3.mono HB2.out.size))
  have HH := Lib.hid hH.1
  clear hc hm hq hb3 hH hcs C0 C1 HB2
  have hb4 := bel1 w3 (.cells #[.int .u32 4009820675, .bool false, .int .i64 0, .slice (some ⟨b, off, none⟩) 1 c3] 28)
  have V4 := Lib.hid (MV.new w3 4009820675 false 0 (some ⟨b, off, none⟩) 1 c3)
  have C0 := Lib.hid ((hb4.cell (cell_lt c0)).trans c0)
  have C1 := Lib.hid ((hb4.cell (cell_lt c1)).trans c1)
  have HB4 := Lib.hid (HB3.out.trans (hb4.mono HB3.out.size))
  have HH4 := Lib.hid (HH.out.below hb4)
  have heq := heldEq 5 10 5 10
  replace h0 := (hb4.cell (cell_lt h0)).trans h0
  replace h1 := (hb4.cell (cell_lt h1)).trans h1
  clear hb4
  go_wp2_with fail
  have hw5 := mWants 4009820675 false 0 (some ⟨b, off, none⟩) 1 c3 [(5, 10)] 5 (w3.alloc (.cells #[.int .u32 4009820675, .bool false, .int .i64 0, .slice (some ⟨b, off, none⟩) 1 c3] 28)) rfl (by decide) HH4.out inc5 (by intro x hx; simp at hx; subst hx; decide)
  rw [wants5] at hw5
  refine hw5.mono ?_
  rintro e w5 ⟨rfl, hb5⟩
  clear hw5
  have V5 := Lib.hid (V4.out.below hb5 V4.out.lt)
  have D0 := Lib.hid ((hb5.cell (cell_lt C0.out)).trans C0.out)
  have D1 := Lib.hid ((hb5.cell (cell_lt C1.out)).trans C1.out)
  have HH5 := Lib.hid (HH4.out.below hb5)
  have HB5 := Lib.hid (HB4.out.trans (hb5.mono HB4.out.size))
  clear hb5 V4 C0 C1 HB4 HH4 h0 h1 c0 c1
  obtain ⟨c0, c1, c2, c3', -⟩ := V5.out.cells
  go_wp2_with fail
  have hw6 := mWants 4009820675 false 0 (some ⟨b, off, none⟩) 1 c3 [(5, 10)] 6 w5 rfl (by decide) HH5.out inc5 (by intro x hx; simp at hx; subst hx; decide)
  rw [wants6] at hw6
  refine hw6.mono ?_
  rintro e w6 ⟨rfl, hb6⟩
  clear hw6
  have V6 := Lib.hid (V5.out.below hb6 V5.out.lt)
  have E0 := Lib.hid ((hb6.cell (cell_lt D0.out)).trans D0.out)
  have E1 := Lib.hid ((hb6.cell (cell_lt D1.out)).trans D1.out)
  have HB6 := Lib.hid (HB5.out.trans (hb6.mono HB5.out.size))
  clear hb6 V5 D0 D1 HB5 HH5 c0 c1 c2 c3'
  obtain ⟨c0, c1, c2, c3', -⟩ := V6.out.cells
  go_wp2_with fail
  refine (mSome 4009820675 false 0 (some ⟨b, off, none⟩) 1 c3 w6).mono ?_
  rintro e w7 ⟨rfl, hb7⟩
  have F0 := Lib.hid ((hb7.cell (cell_lt E0.out)).trans E0.out)
  have F1 := Lib.hid ((hb7.cell (cell_lt E1.out)).trans E1.out)
  have HB7 := Lib.hid (HB6.out.trans (hb7.mono HB6.out.size))
  clear hb7 V6 E0 E1 HB6 c0 c1 c2 c3'
  have c0 := F0.out
  have c1 := F1.out
  go_wp2_with fail
  refine (mMay 10 2 w7).mono ?_
  rintro e w8 ⟨rfl, hb8⟩
  have HB8 := Lib.hid (HB7.out.trans (hb8.mono HB7.out.size))
  have hd : decide (mayP 10 2) = true := by decide
  clear hb8 c0 c1
  rw [hd]
  go_wp2_with fail
  go_ret
  exact ⟨rfl, HB8.out⟩
end Go.Proofs.YtiabbkjmgaemaaaGreat
/- What records and time make of what is known: plain facts. -/
namespace Go.Proofs.YtiabbkjmgaemaaaGreat
set_option linter.unusedVariables false

def lo (ex : Bool) : Int := if ex then 0 else 1
def LB (s : List Hd) (l h : Int) : Prop := ∀ x ∈ s, l ≤ x.2 ∧ x.2 ≤ h
theorem lb_ok {ex : Bool} {s : List Hd} : (∀ x ∈ s, okX ex x) ↔ LB s (lo ex) 1000000 := by
  unfold okX LB lo
  cases ex
  · exact ⟨fun h x hx => by have := h x hx; have h2 := this.2 rfl; simp only [Bool.false_eq_true, if_false]; omega, fun h x hx => by have := h x hx; simp only [Bool.false_eq_true, if_false] at this; exact ⟨by omega, fun _ => by omega⟩⟩
  · exact ⟨fun h x hx => by have := h x hx; simp only [if_true]; omega, fun h x hx => by have := h x hx; simp only [if_true] at this; exact ⟨by omega, fun h => by cases h⟩⟩
theorem LB.nn {s : List Hd} {l h : Int} (hb : LB s l h) (hl : 0 ≤ l) : NN s := fun x hx => by have := hb x hx; omega
theorem LB.weak {s : List Hd} {l h l' : Int} (hb : LB s l h) (hl : l' ≤ l) : LB s l' h := fun x hx => by have := hb x hx; omega
theorem LB.lf {s : List Hd} {l h : Int} (hb : LB s l h) {a : Int} (hm : a ∈ ad s) : l ≤ lf s a ∧ lf s a ≤ h := hb _ (lf_in hm)
theorem keepS_lb {s : List Hd} {B : List Int} {T l h : Int} (hi : Inc (ad s)) (hB : Inc B) (hb : LB s l h) (hT : l ≤ T ∧ T ≤ h) : LB (keepS s B T) l h := by
  intro x hx
  obtain ⟨a, ha, rfl⟩ := List.mem_map.1 hx
  show l ≤ (if a ∈ B then T else lf s a) ∧ (if a ∈ B then T else lf s a) ≤ h
  split
  · exact hT
  · rename_i hn
    exact hb.lf (((uni_mem hi hB a).1 ha).resolve_right hn)
theorem filter_lb {s : List Hd} {l h : Int} (p : Hd → Bool) (hb : LB s l h) : LB (s.filter p) l h := fun x hx => hb x (List.mem_filter.1 hx).1
theorem exS_lb {s : List Hd} {B : List Int} {T l h : Int} (hi : Inc (ad s)) (hB : Inc B) (hb : LB s l h) (hT : l ≤ T ∧ T ≤ h) : LB (exS s B T) l h :=
  keepS_lb (ad_filter_inc _ hi) (dif_inc hB hi) (filter_lb _ hb) hT
theorem askS_lb {s : List Hd} {B : List Int} {T l h : Int} (hi : Inc (ad s)) (hB : Inc B) (hb : LB s l h) (hT : l ≤ T ∧ T ≤ h) : LB (askS s T B) l h := by
  unfold askS
  split
  · exact hb
  · exact keepS_lb hi (int_inc hB (ad_filter_inc _ hi)) hb hT
theorem lf_exS {s : List Hd} {B : List Int} {T : Int} (hi : Inc (ad s)) (hB : Inc B) (hn : NN s) (a : Int) : lf (exS s B T) a = if a ∈ B then (if 0 ≤ lf s a then lf s a else T) else -1 := by
  unfold exS
  rw [keepS_lf (ad_filter_inc _ hi) (dif_inc hB hi) (nn_filter _ hn), lf_filter _ hi hn]
  have hd := dif_mem hB hi a
  have hg := lf_ge hn (a := a)
  by_cases h1 : a ∈ B
  · by_cases h2 : 0 ≤ lf s a
    · rw [if_neg (fun h => (hd.1 h).2 (hg.1 h2)), if_pos ⟨h2, by simpa using h1⟩, if_pos h1, if_pos h2]
    · rw [if_pos (hd.2 ⟨h1, fun h => h2 (hg.2 h)⟩), if_pos h1, if_neg h2]
  · rw [if_neg (fun h => h1 (hd.1 h).1), if_neg (fun h => h1 (by simpa using h.2)), if_neg h1]
theorem lf_askS {s : List Hd} {B : List Int} {la : Int} (hi : Inc (ad s)) (hB : Inc B) (hn : NN s) (hl : 0 ≤ la) (a : Int) : lf (askS s la B) a = if a ∈ B ∧ la < lf s a then la else lf s a := by
  unfold askS
  split
  · rename_i h
    subst h
    rw [if_neg (fun h => by simp at h)]
  · rw [keepS_lf hi (int_inc hB (ad_filter_inc _ hi)) hn]
    have hm := int_mem hB (ad_filter_inc (fun x : Hd => decide (la < x.2)) hi) a
    rw [filter_mem _ hi hn] at hm
    by_cases h : a ∈ B ∧ la < lf s a
    · rw [if_pos h, if_pos (hm.2 ⟨h.1, by omega, by simpa using h.2⟩)]
    · rw [if_neg h, if_neg (fun k => h ⟨(hm.1 k).1, by simpa using (hm.1 k).2.2⟩)]
theorem wantS_mem {s : List Hd} (hi : Inc (ad s)) (hn : NN s) (a : Int) : a ∈ wantS s ↔ 0 < lf s a := by
  unfold wantS
  rw [filter_mem _ hi hn]
  simp only [decide_eq_true_eq]
  omega
theorem tkS_inc {ex : Bool} {left n : Int} {s : List Hd} (hi : Inc (ad s)) : Inc (ad (tkS ex left s n)) := by rw [tkS_ad]; exact ad_filter_inc _ hi
theorem tkS_nn {ex : Bool} {left n : Int} {s : List Hd} : NN (tkS ex left s n) := by
  intro x hx
  obtain ⟨y, _, rfl⟩ := List.mem_map.1 hx
  show 0 ≤ max _ _
  omega
theorem lf_tkS {ex : Bool} {left n : Int} {s : List Hd} (hi : Inc (ad s)) (hn : NN s) (a : Int) : lf (tkS ex left s n) a = if 0 ≤ lf s a ∧ (tkE ex left n = true ∨ n < lf s a) then max (lf s a - n) 0 else -1 := by
  have hm := filter_mem (fun x : Hd => tkE ex left n || decide (n < x.2)) hi hn a
  simp only [Bool.or_eq_true, decide_eq_true_eq] at hm
  by_cases h : 0 ≤ lf s a ∧ (tkE ex left n = true ∨ n < lf s a)
  · rw [if_pos h]
    refine lf_of (tkS_inc hi) ?_
    unfold tkS
    refine List.mem_map.2 ⟨(a, lf s a), List.mem_filter.2 ⟨lf_in ((lf_ge hn).1 h.1), ?_⟩, rfl⟩
    simpa using h.2
  · rw [if_neg h]
    refine lf_none fun hx => h ?_
    rw [tkS_ad] at hx
    exact hm.1 hx
theorem tkS_lb {ex : Bool} {left n : Int} {s : List Hd} (hb : LB s (lo ex) 1000000) (h0 : 0 ≤ n) : LB (tkS ex left s n) (lo (tkE ex left n)) 1000000 := by
  intro x hx
  obtain ⟨y, hy, rfl⟩ := List.mem_map.1 hx
  obtain ⟨hy, hp⟩ := List.mem_filter.1 hy
  have := hb y hy
  have hl : 0 ≤ lo ex := by unfold lo; split <;> omega
  show lo _ ≤ max (y.2 - n) 0 ∧ max (y.2 - n) 0 ≤ 1000000
  refine ⟨?_, by omega⟩
  cases he : tkE ex left n
  · rw [he] at hp
    simp only [Bool.false_or, decide_eq_true_eq] at hp
    unfold lo
    simp only [Bool.false_eq_true, if_false]
    omega
  · unfold lo
    simp only [if_true]
    omega
theorem okM.lb {g : Int} {ex : Bool} {left : Int} {s : List Hd} (h : okM g ex left s) : LB s (lo ex) 1000000 := lb_ok.1 h.2.2.2.1
theorem lo_nn (ex : Bool) : 0 ≤ lo ex := by unfold lo; split <;> omega
theorem okM.nn {g : Int} {ex : Bool} {left : Int} {s : List Hd} (h : okM g ex left s) : NN s := h.lb.nn (lo_nn ex)
theorem okM.inc {g : Int} {ex : Bool} {left : Int} {s : List Hd} (h : okM g ex left s) : Inc (ad s) := h.2.2.2.2
theorem okM.left {g : Int} {ex : Bool} {left : Int} {s : List Hd} (h : okM g ex left s) : 0 ≤ left ∧ left ≤ 1000000 ∧ (ex = true → 1 ≤ left) ∧ (ex = false → left = 0) := by
  have hl := h.2.2.1
  unfold okL at hl
  cases ex
  · simp only [Bool.false_eq_true, if_false] at hl
    exact ⟨by omega, by omega, fun h => by (cases h), fun _ => hl⟩
  · simp only [if_true] at hl
    exact ⟨by omega, by omega, fun _ => hl.1, fun h => by (cases h)⟩
theorem tick_ok {g : Int} {ex : Bool} {left n : Int} {s : List Hd} (h : okM g ex left s) (hn : 0 ≤ n) : okM g (tkE ex left n) (max (left - n) 0) (tkS ex left s n) := by
  refine ⟨h.1, ?_, ?_, lb_ok.2 (tkS_lb h.lb hn), tkS_inc h.inc⟩
  · unfold tkS
    rw [List.length_map]
    exact Nat.le_trans (List.length_filter_le _ _) h.2.1
  · have hl := h.left
    unfold okL tkE
    cases ex
    · have := hl.2.2.2 rfl
      simp only [Bool.false_and, Bool.false_eq_true, if_false]
      omega
    · have := hl.2.2.1 rfl
      by_cases hp : 0 < max (left - n) 0
      · simp only [Bool.true_and, hp, decide_true, if_true]; omega
      · simp only [Bool.true_and, hp, decide_false, Bool.false_eq_true, if_false]; omega
theorem cap_ok {g : Int} {ex : Bool} {left : Int} {s : List Hd} {r : Hr} (h : okM g ex left s) (hr : r.s.length ≤ 64 → okM g r.ex r.left r.s) : okM g (capH ex left s r).ex (capH ex left s r).left (capH ex left s r).s := by
  unfold capH
  split
  · rename_i hl; exact hr hl
  · exact h
theorem hear_ok {g kp la : Int} {ex : Bool} {left : Int} {s : List Hd} (kind : Int) (xs : List Int) (ht : mayP kp la) (h : okM g ex left s) :
    okM g (hearP g kp la ex left s kind xs).ex (hearP g kp la ex left s kind xs).left (hearP g kp la ex left s kind xs).s := by
  have hB := mk_inc xs
  have hi := h.inc
  have hb := h.lb
  have hl := h.left
  obtain ⟨t1, t2, t3⟩ := ht
  have hlo : lo ex ≤ 1 := by unfold lo; split <;> omega
  have hT : lo ex ≤ la ∧ la ≤ 1000000 := ⟨by omega, by omega⟩
  have hK : lo ex ≤ kp ∧ kp ≤ 1000000 := ⟨by omega, by omega⟩
  have hb0 : LB s 0 1000000 := hb.weak (lo_nn ex)
  have okt : ∀ {s' : List Hd} {l' : Int}, s'.length ≤ 64 → 1 ≤ l' ∧ l' ≤ 1000000 → LB s' 0 1000000 → Inc (ad s') → okM g true l' s' := fun h1 h2 h3 h4 => ⟨h.1, h1, h2, lb_ok.2 h3, h4⟩
  unfold hearP
  split
  · exact cap_ok h fun h64 => ⟨h.1, h64, h.2.2.1, lb_ok.2 (keepS_lb hi hB hb hK), keepS_inc _ hi hB⟩
  split
  · refine cap_ok h fun h64 => okt h64 ⟨by show 1 ≤ kp; omega, t3⟩ (exS_lb hi hB hb0 ?_) (exS_inc _ hi hB)
    split <;> omega
  split
  · refine cap_ok h fun h64 => ⟨h.1, h64, ?_, lb_ok.2 (askS_lb (keepS_inc _ hi hB) (dif_inc (wantS_inc (keepS_inc _ hi hB)) hB) (keepS_lb hi hB hb hK) hT), askS_inc _ (keepS_inc _ hi hB) (dif_inc (wantS_inc (keepS_inc _ hi hB)) hB)⟩
    have h3 := h.2.2.1
    unfold hToIn okL at *
    cases ex
    · simpa using h3
    · simp only [if_true] at h3 ⊢; omega
  split
  · refine cap_ok h fun h64 => okt h64 ⟨by show 1 ≤ kp; omega, t3⟩ (askS_lb (exS_inc _ hi hB) (wantS_inc (exS_inc _ hi hB)) (exS_lb hi hB hb0 ⟨hl.1, hl.2.1⟩) ⟨by omega, by omega⟩) (askS_inc _ (exS_inc _ hi hB) (wantS_inc (exS_inc _ hi hB)))
  split
  · refine cap_ok h fun h64 => ?_
    cases ex
    · simp only [hBlock, Bool.false_eq_true, if_false] at h64 ⊢
      exact ⟨h.1, h64, h.2.2.1, lb_ok.2 (askS_lb hi (int_inc hB (wantS_inc hi)) hb hT), askS_inc _ hi (int_inc hB (wantS_inc hi))⟩
    · simp only [hBlock, if_true] at h64 ⊢
      have hi2 := keepS_inc (s := s) (l := dif (mk xs) (ad s)) left hi (dif_inc hB hi)
      exact ⟨h.1, h64, h.2.2.1, lb_ok.2 (askS_lb hi2 (int_inc hB (wantS_inc hi2)) (keepS_lb hi (dif_inc hB hi) hb ⟨by have := hl.2.2.1 rfl; show (0 : Int) ≤ left; omega, hl.2.1⟩) hT), askS_inc _ hi2 (int_inc hB (wantS_inc hi2))⟩
  · exact h
end Go.Proofs.YtiabbkjmgaemaaaGreat
/- What is right, and what the same: the program's own answers. -/
namespace Go.Proofs.YtiabbkjmgaemaaaGreat
set_option linter.unusedVariables false
open Go.RowKit

theorem zIsGroup (g : Int) (w : World) :
    Calls Tryz.prog 149 #[.int .u32 g] w fun e w' => e = .returned (.bool (decide (3758096384 ≤ g ∧ g ≤ 4026531839))) ∧ w = w' := by
  by_cases h1 : 3758096384 ≤ g
  · by_cases h2 : g ≤ 4026531839
    · rw [decide_eq_true ⟨h1, h2⟩]
      go_enter Tryz.func149, Tryz.ntmps149
      go_wp2
      go_ret
      exact ⟨rfl, rfl⟩
    · rw [decide_eq_false (fun e => h2 e.2)]
      go_enter Tryz.func149, Tryz.ntmps149
      go_wp2
      go_ret
      exact ⟨rfl, rfl⟩
  · rw [decide_eq_false (fun e => h1 e.1)]
    go_enter Tryz.func149, Tryz.ntmps149
    go_wp2
    go_ret
    exact ⟨rfl, rfl⟩
theorem zIsLocal (g : Int) (w : World) :
    Calls Tryz.prog 150 #[.int .u32 g] w fun e w' => e = .returned (.bool (decide (3758096384 ≤ g ∧ g ≤ 3758096639))) ∧ w = w' := by
  by_cases h1 : 3758096384 ≤ g
  · by_cases h2 : g ≤ 3758096639
    · rw [decide_eq_true ⟨h1, h2⟩]
      go_enter Tryz.func150, Tryz.ntmps150
      go_wp2
      go_ret
      exact ⟨rfl, rfl⟩
    · rw [decide_eq_false (fun e => h2 e.2)]
      go_enter Tryz.func150, Tryz.ntmps150
      go_wp2
      go_ret
      exact ⟨rfl, rfl⟩
  · rw [decide_eq_false (fun e => h1 e.1)]
    go_enter Tryz.func150, Tryz.ntmps150
    go_wp2
    go_ret
    exact ⟨rfl, rfl⟩
theorem zIsAsked (g : Int) (w : World) :
    Calls Tryz.prog 123 #[.int .u32 g] w fun e w' => e = .returned (.bool (vAskd g)) ∧ w = w' := by
  by_cases h1 : 3758096384 ≤ g ∧ g ≤ 4026531839
  · by_cases h2 : 3758096384 ≤ g ∧ g ≤ 3758096639
    · have e : vAskd g = false := by unfold vAskd; rw [decide_eq_false_iff_not]; omega
      have D1 := Lib.hid (decide_eq_true h1)
      have D2 := Lib.hid (decide_eq_true h2)
      rw [e]
      clear h1 h2 e
      go_enter Tryz.func123, Tryz.ntmps123
      go_wp2_with (first
        | (go_at_call 149; refine (zIsGroup g _).mono ?_; rintro e w1 ⟨rfl, rfl⟩; rw [D1.out])
        | (go_at_call 150; refine (zIsLocal g _).mono ?_; rintro e w2 ⟨rfl, rfl⟩; rw [D2.out]))
      go_ret
      exact ⟨rfl, rfl⟩
    · have e : vAskd g = true := by unfold vAskd; rw [decide_eq_true_eq]; omega
      have D1 := Lib.hid (decide_eq_true h1)
      have D2 := Lib.hid (decide_eq_false h2)
      rw [e]
      clear h1 h2 e
      go_enter Tryz.func123, Tryz.ntmps123
      go_wp2_with (first
        | (go_at_call 149; refine (zIsGroup g _).mono ?_; rintro e w1 ⟨rfl, rfl⟩; rw [D1.out])
        | (go_at_call 150; refine (zIsLocal g _).mono ?_; rintro e w2 ⟨rfl, rfl⟩; rw [D2.out]))
      go_ret
      exact ⟨rfl, rfl⟩
  · have e : vAskd g = false := by unfold vAskd; rw [decide_eq_false_iff_not]; omega
    have D1 := Lib.hid (decide_eq_false h1)
    rw [e]
    clear h1 e
    go_enter Tryz.func123, Tryz.ntmps123
    go_wp2_with (go_at_call 149; refine (zIsGroup g _).mono ?_; rintro e w1 ⟨rfl, rfl⟩; rw [D1.out])
    go_ret
    exact ⟨rfl, rfl⟩
theorem zHas (l h x : Int) (w : World) : Calls Tryz.prog 122 #[.agg #[.int .i64 l, .int .i64 h], .int .i64 x] w fun e w' => e = .returned (.bool (decide (l ≤ x ∧ x ≤ h))) ∧ Below w.heap.size w w' := by
  by_cases h1 : l ≤ x
  · by_cases h2 : x ≤ h
    · have HE : Hid (decide (l ≤ x ∧ x ≤ h) = true) := Lib.hid (decide_eq_true ⟨h1, h2⟩)
      go_enter Tryz.func122, Tryz.ntmps122
      go_wp2
      go_ret
      exact ⟨ret_bool HE.out.symm, bel1 w _⟩
    · have HE : Hid (decide (l ≤ x ∧ x ≤ h) = false) := Lib.hid (decide_eq_false fun k => h2 k.2)
      have h2' : decide (x ≤ h) = false := decide_eq_false h2
      clear h2
      go_enter Tryz.func122, Tryz.ntmps122
      go_wp2
      go_ret
      exact ⟨ret_bool HE.out.symm, bel1 w _⟩
  · have HE : Hid (decide (l ≤ x ∧ x ≤ h) = false) := Lib.hid (decide_eq_false fun k => h1 k.1)
    have h1' : decide (l ≤ x) = false := decide_eq_false h1
    clear h1
    go_enter Tryz.func122, Tryz.ntmps122
    go_wp2
    go_ret
    exact ⟨ret_bool HE.out.symm, bel1 w _⟩
/-- Two cells of a span. -/
def SC (w : World) (B : Nat) (l h : Int) : Prop := w.cell? ⟨B, 0, none⟩ = some (.int .i64 l) ∧ w.cell? ⟨B, 1, none⟩ = some (.int .i64 h)
theorem SC.below {w w' : World} {B : Nat} {l h : Int} (k : SC w B l h) (hb : Below w.heap.size w w') : SC w' B l h := ⟨(hb.cell (cell_lt k.1)).trans k.1, (hb.cell (cell_lt k.2)).trans k.2⟩
theorem zWrong (B : Nat) (l h : Int) (x : Hd) (w : World) (hB : SC w B l h) :
    Calls Tryz.prog 121 #[.agg #[.int .u32 x.1, .int .i64 x.2], .pointer (some ⟨B, 0, none⟩)] w fun e w' => e = .returned (.bool (!decide (l ≤ x.2 ∧ x.2 ≤ h))) ∧ Below w.heap.size w w' := by
  obtain ⟨x1, x2⟩ := x
  have hb := bel1 w (.cells #[.int .u32 x1, .int .i64 x2] 86)
  obtain ⟨c0, c1⟩ := hB.below hb
  have HB := Lib.hid hb
  clear hB hb
  show Calls _ _ _ _ fun e w' => e = .returned (.bool (!decide (l ≤ x2 ∧ x2 ≤ h))) ∧ Below w.heap.size w w'
  go_enter Tryz.func121, Tryz.ntmps121
  go_wp2_with fail
  refine (zHas l h x2 _).mono ?_
  rintro e w1 ⟨rfl, hb1⟩
  have HB1 := Lib.hid (HB.out.trans (hb1.mono HB.out.size))
  clear hb1 c0 c1
  obtain ⟨q, hq⟩ : ∃ q, decide (l ≤ x2 ∧ x2 ≤ h) = q := ⟨_, rfl⟩
  rw [hq]
  have HQ := Lib.hid hq
  clear hq
  cases q
  all_goals
    go_wp2_with fail
    go_ret
    exact ⟨ret_bool (by rw [HQ.out]; rfl), HB1.out⟩
instance (s : List Hd) (l h : Int) : Decidable (LB s l h) := by unfold LB; infer_instance
set_option maxRecDepth 100000 in
set_option maxHeartbeats 4000000 in
theorem zIdx (B : Nat) (l h : Int) (a : Option Addr) (n c : Nat) (s : List Hd) (w : World) (hx : s.length = n) (hn : n ≤ 100000) (hH : Hs w a s) (hN : SC w B l h) :
    Calls Tryz.prog 73 #[.slice a n c, .func (.func 121) #[] #[.pointer (some ⟨B, 0, none⟩)]] w fun e w' =>
      (∃ r : Int, e = .returned (.int .i64 r) ∧ decide (0 ≤ r) = !decide (LB s l h)) ∧ Below w.heap.size w w' := by
  have HX := Lib.hid hx
  have HH := Lib.hid hH
  have HN := Lib.hid hN
  clear hx hH hN
  go_enter Tryz.func73, Tryz.ntmps73
  go_wp2
  go_loopw [8] (fun v wr => ∃ k : Nat, v = .int .i64 (k : Int) ∧ k ≤ n ∧ LB (s.take k) l h ∧ Below w.heap.size w wr) (fun v _ => n - (intOf v).toNat)
  case atStart => exact ⟨0, rfl, by omega, by simp [LB], Below.refl _ _⟩
  case round =>
    obtain ⟨k, rfl, hk, hno, hB⟩ := hrel
    have HNO := Lib.hid hno
    have HB := Lib.hid hB
    clear hno hB
    by_cases hlt : k < n
    · obtain ⟨b, off, rfl, hc⟩ := HH.out.at (k := k) (by rw [HX.out]; exact hlt)
      obtain ⟨⟨x1, x2⟩, hfk⟩ : ∃ y, s[k]? = some y := ⟨_, List.getElem?_eq_getElem (by rw [HX.out]; exact hlt)⟩
      obtain ⟨d0, d1⟩ := (hc k _ hfk).below HB.out
      simp only at d0 d1
      have HFK := Lib.hid hfk
      have hkz : (k : Int) < (n : Int) := by omega
      clear hc hfk
      go_wp2_with fail
      refine (zWrong B l h (x1, x2) wr (HN.out.below HB.out)).mono ?_
      rintro e w1 ⟨rfl, hb1⟩
      have HB1 := Lib.hid (HB.out.trans (hb1.mono HB.out.size))
      clear hb1 d0 d1
      obtain ⟨q, hq⟩ : ∃ q, (!decide (l ≤ ((x1, x2) : Hd).2 ∧ ((x1, x2) : Hd).2 ≤ h)) = q := ⟨_, rfl⟩
      rw [hq]
      have HQ := Lib.hid hq
      clear hq
      cases q
      · go_wp2_with fail
        go_roundw
        case rel =>
          refine ⟨k + 1, by go_num, by omega, ?_, HB1.out⟩
          rw [takeH HFK.out]
          intro y hy
          rcases List.mem_append.1 hy with h1 | h1
          · exact HNO.out y h1
          · obtain rfl : y = (x1, x2) := by simpa using h1
            have := HQ.out
            simpa using this
        case measure => simp [intOf]; omega
      · go_wp2_with fail
        go_ret
        refine ⟨⟨k, rfl, ?_⟩, HB1.out⟩
        have hno : ¬ LB s l h := fun k2 => by
          have h1 := k2 _ (List.mem_of_getElem? HFK.out)
          have h2 := HQ.out
          simp only [Bool.not_eq_true', decide_eq_false_iff_not] at h2
          exact h2 h1
        rw [decide_eq_false hno, decide_eq_true (by omega)]
        rfl
    · obtain rfl : k = n := by omega
      go_wp2_with fail
      go_ret
      refine ⟨⟨-1, rfl, ?_⟩, HB.out⟩
      have h1 := HNO.out
      rw [List.take_of_length_le (by rw [HX.out]; exact Nat.le_refl _)] at h1
      rw [decide_eq_true h1]
      rfl
theorem zContains (B : Nat) (l h : Int) (a : Option Addr) (n c : Nat) (s : List Hd) (w : World) (hx : s.length = n) (hn : n ≤ 100000) (hH : Hs w a s) (hN : SC w B l h) :
    Calls Tryz.prog 125 #[.slice a n c, .func (.func 121) #[] #[.pointer (some ⟨B, 0, none⟩)]] w fun e w' => e = .returned (.bool (!decide (LB s l h))) ∧ Below w.heap.size w w' := by
  have HX := Lib.hid hx
  have HH := Lib.hid hH
  have HN := Lib.hid hN
  clear hx hH hN
  go_enter Tryz.func125, Tryz.ntmps125
  go_wp2_with fail
  refine (zIdx B l h a n c s _ HX.out hn HH.out HN.out).mono ?_
  rintro e w1 ⟨⟨r, rfl, hr⟩, hb⟩
  have HR := Lib.hid hr
  have HB := Lib.hid hb
  clear hr hb
  go_wp2_with fail
  go_ret
  exact ⟨ret_bool HR.out, HB.out⟩
theorem mkSpan (w : World) (g : Int) (ex : Bool) (left : Int) (a : Option Addr) (n c : Nat) (l h l2 h2 : Int) (W : World)
    (hW : W = ((w.alloc (.cells #[.int .u32 g, .bool ex, .int .i64 left, .slice a n c] 28)).alloc (.cells #[.int .i64 l, .int .i64 h] 168)).alloc (.cells #[.int .i64 l2, .int .i64 h2] 168)) :
    MV W w.heap.size g ex left a n c ∧ SC W (w.heap.size + 1) l h ∧ SC W (w.heap.size + 2) l2 h2 ∧ Below w.heap.size w W := by
  subst hW
  have e1 : (w.alloc (.cells #[.int .u32 g, .bool ex, .int .i64 left, .slice a n c] 28)).heap.size = w.heap.size + 1 := World.size_alloc _ _
  have e2 : ((w.alloc (.cells #[.int .u32 g, .bool ex, .int .i64 left, .slice a n c] 28)).alloc (.cells #[.int .i64 l, .int .i64 h] 168)).heap.size = w.heap.size + 2 := by rw [World.size_alloc, e1]
  have l1 := Go.Deep.blk_alloc_new (w.alloc (.cells #[.int .u32 g, .bool ex, .int .i64 left, .slice a n c] 28)) (.cells #[.int .i64 l, .int .i64 h] 168)
  rw [e1] at l1
  have l1' := v_blk l1 (.cells #[.int .i64 l2, .int .i64 h2] 168)
  have l2' := Go.Deep.blk_alloc_new ((w.alloc (.cells #[.int .u32 g, .bool ex, .int .i64 left, .slice a n c] 28)).alloc (.cells #[.int .i64 l, .int .i64 h] 168)) (.cells #[.int .i64 l2, .int .i64 h2] 168)
  rw [e2] at l2'
  exact ⟨((MV.new w g ex left a n c).keep _).keep _, ⟨by simp only [World.cell?, l1']; rfl, by simp only [World.cell?, l1']; rfl⟩, ⟨by simp only [World.cell?, l2']; rfl, by simp only [World.cell?, l2']; rfl⟩, (((Below.refl _ w).alloc (Nat.le_refl _) _).alloc (by rw [e1]; omega) _).alloc (by rw [e2]; omega) _⟩
set_option maxRecDepth 100000 in
set_option maxHeartbeats 16000000 in
theorem zRight (g : Int) (ex : Bool) (left : Int) (a : Option Addr) (n c : Nat) (s : List Hd) (w : World) (hx : s.length = n) (hn : n ≤ 100000) (hH : Hs w a s) :
    Calls Tryz.prog 102 #[.agg #[.int .u32 g, .bool ex, .int .i64 left, .slice a n c]] w fun e w' => e = .returned (.bool (decide (okM g ex left s))) ∧ Below w.heap.size w w' := by
  have HX := Lib.hid hx
  have HH0 := Lib.hid hH
  clear hx hH
  obtain ⟨ask, hask⟩ : ∃ ask, vAskd g = ask := ⟨_, rfl⟩
  have D2 := Lib.hid hask
  obtain ⟨R, hR⟩ : ∃ R, decide (okM g ex left s) = R := ⟨_, rfl⟩
  rw [hR]
  have HR := Lib.hid hR
  clear hask hR
  go_enter Tryz.func102, Tryz.ntmps102
  cases ex
  · go_wp2_with fail
    obtain ⟨wz, hwz⟩ : ∃ wz, wz = ((w.alloc (.cells #[.int .u32 g, .bool false, .int .i64 left, .slice a n c] 28)).alloc (.cells #[.int .i64 0, .int .i64 0] 168)).alloc (.cells #[.int .i64 1, .int .i64 1000000] 168) := ⟨_, rfl⟩
    obtain ⟨v0, gg, ss, hbz⟩ := mkSpan w g false left a n c 0 0 1 1000000 wz hwz
    rw [← hwz]
    have V0 := Lib.hid v0
    have G := Lib.hid gg
    have S := Lib.hid ss
    have BB := Lib.hid hbz
    have HH := Lib.hid (HH0.out.below hbz)
    clear hwz v0 gg ss hbz
    refine (zIsAsked g wz).mono ?_
    rintro e w5 ⟨rfl, rfl⟩
    rw [D2.out]
    obtain ⟨c0, c1, c2, c3, -⟩ := V0.out.cells
    obtain ⟨g0, g1⟩ := G.out
    cases ask
    · have HE : Hid (R = false) := Lib.hid (by rw [← HR.out]; exact decide_eq_false fun h => by have := h.1; rw [D2.out] at this; cases this)
      go_wp2_with fail
      go_ret
      exact ⟨ret_bool HE.out.symm, BB.out⟩
    · go_wp2_with fail
      refine (zHas 0 0 left wz).mono ?_
      rintro e w6 ⟨rfl, hb⟩
      have V6 := Lib.hid (V0.out.below hb V0.out.lt)
      have S6 := Lib.hid (S.out.below hb)
      have H6 := Lib.hid (HH.out.below hb)
      have B6 := Lib.hid (BB.out.trans (hb.mono BB.out.size))
      clear hb c0 c1 c2 c3 g0 g1 V0 S G HH BB
      by_cases hl : okL false left
      · have hd : decide ((0 : Int) ≤ left ∧ left ≤ 0) = true := decide_eq_true (by unfold okL at hl; simp at hl; omega)
        rw [hd]
        have HOL := Lib.hid hl
        clear hd hl
        obtain ⟨c0, c1, c2, c3, -⟩ := V6.out.cells
        by_cases h64 : n ≤ 64
        · have h64' : (n : Int) ≤ 64 := by omega
          go_wp2_with fail
          refine (mAddrs a n c s w6 HX.out (by omega) H6.out).mono ?_
          rintro e w7 ⟨⟨a7, c7, rfl, hA7, hf7, ho7⟩, hb⟩
          have V7 := Lib.hid (V6.out.below hb V6.out.lt)
          have S7 := Lib.hid (S6.out.below hb)
          have H7 := Lib.hid (H6.out.below hb)
          have B7 := Lib.hid (B6.out.trans (hb.mono B6.out.size))
          have A7 := Lib.hid hA7
          clear hb c0 c1 c2 c3 V6 S6 H6 B6 hA7 hf7 ho7
          go_wp2_with fail
          refine (sRight a7 _ c7 (ad s) w7 rfl (by rw [ad_len, HX.out]; omega) A7.out).mono ?_
          rintro e w8 ⟨rfl, hb⟩
          have V8 := Lib.hid (V7.out.below hb V7.out.lt)
          have S8 := Lib.hid (S7.out.below hb)
          have H8 := Lib.hid (H7.out.below hb)
          have B8 := Lib.hid (B7.out.trans (hb.mono B7.out.size))
          clear hb V7 S7 H7 B7 A7
          obtain ⟨c0, c1, c2, c3, -⟩ := V8.out.cells
          by_cases hi : Inc (ad s)
          · simp only [hi, decide_true]
            have HI := Lib.hid hi
            clear hi
            go_wp2_with fail
            refine (zContains (w.heap.size + 2) 1 1000000 a n c s w8 HX.out (by omega) H8.out S8.out).mono ?_
            rintro e w9 ⟨rfl, hb⟩
            have B9 := Lib.hid (B8.out.trans (hb.mono B8.out.size))
            clear hb c0 c1 c2 c3
            have HE : Hid (decide (LB s 1 1000000) = R) := Lib.hid (by rw [← HR.out]; exact decide_eq_decide.2 ⟨fun h => ⟨D2.out, by rw [HX.out]; exact h64, HOL.out, lb_ok.2 (show LB s (lo false) 1000000 from h), HI.out⟩, fun h => lb_ok.1 h.2.2.2.1⟩)
            obtain ⟨q, hq⟩ : ∃ q, decide (LB s 1 1000000) = q := ⟨_, rfl⟩
            rw [hq] at HE ⊢
            clear hq
            cases q
            all_goals
              go_wp2_with fail
              go_ret
              exact ⟨ret_bool HE.out, B9.out⟩
          · simp only [hi, decide_false]
            have HE : Hid (R = false) := Lib.hid (by rw [← HR.out]; exact decide_eq_false fun h => hi h.2.2.2.2)
            clear hi
            go_wp2_with fail
            go_ret
            exact ⟨ret_bool HE.out.symm, B8.out⟩
        · have h64' : decide ((n : Int) ≤ 64) = false := decide_eq_false (by omega)
          have HE : Hid (R = false) := Lib.hid (by rw [← HR.out]; exact decide_eq_false fun h => h64 (by have := h.2.1; rw [HX.out] at this; exact this))
          clear h64
          go_wp2_with fail
          go_ret
          exact ⟨ret_bool HE.out.symm, B6.out⟩
      · have hd : decide ((0 : Int) ≤ left ∧ left ≤ 0) = false := decide_eq_false (fun h => hl (by unfold okL; simp; omega))
        rw [hd]
        have HE : Hid (R = false) := Lib.hid (by rw [← HR.out]; exact decide_eq_false fun h => hl h.2.2.1)
        clear hd hl
        go_wp2_with fail
        go_ret
        exact ⟨ret_bool HE.out.symm, B6.out⟩
  · go_wp2_with fail
    obtain ⟨wz, hwz⟩ : ∃ wz, wz = ((w.alloc (.cells #[.int .u32 g, .bool true, .int .i64 left, .slice a n c] 28)).alloc (.cells #[.int .i64 1, .int .i64 1000000] 168)).alloc (.cells #[.int .i64 0, .int .i64 1000000] 168) := ⟨_, rfl⟩
    obtain ⟨v0, gg, ss, hbz⟩ := mkSpan w g true left a n c 1 1000000 0 1000000 wz hwz
    rw [← hwz]
    have V0 := Lib.hid v0
    have G := Lib.hid gg
    have S := Lib.hid ss
    have BB := Lib.hid hbz
    have HH := Lib.hid (HH0.out.below hbz)
    clear hwz v0 gg ss hbz
    refine (zIsAsked g wz).mono ?_
    rintro e w5 ⟨rfl, rfl⟩
    rw [D2.out]
    obtain ⟨c0, c1, c2, c3, -⟩ := V0.out.cells
    obtain ⟨g0, g1⟩ := G.out
    cases ask
    · have HE : Hid (R = false) := Lib.hid (by rw [← HR.out]; exact decide_eq_false fun h => by have := h.1; rw [D2.out] at this; cases this)
      go_wp2_with fail
      go_ret
      exact ⟨ret_bool HE.out.symm, BB.out⟩
    · go_wp2_with fail
      refine (zHas 1 1000000 left wz).mono ?_
      rintro e w6 ⟨rfl, hb⟩
      have V6 := Lib.hid (V0.out.below hb V0.out.lt)
      have S6 := Lib.hid (S.out.below hb)
      have H6 := Lib.hid (HH.out.below hb)
      have B6 := Lib.hid (BB.out.trans (hb.mono BB.out.size))
      clear hb c0 c1 c2 c3 g0 g1 V0 S G HH BB
      by_cases hl : okL true left
      · have hd : decide ((1 : Int) ≤ left ∧ left ≤ 1000000) = true := decide_eq_true (by unfold okL at hl; simp at hl; omega)
        rw [hd]
        have HOL := Lib.hid hl
        clear hd hl
        obtain ⟨c0, c1, c2, c3, -⟩ := V6.out.cells
        by_cases h64 : n ≤ 64
        · have h64' : (n : Int) ≤ 64 := by omega
          go_wp2_with fail
          refine (mAddrs a n c s w6 HX.out (by omega) H6.out).mono ?_
          rintro e w7 ⟨⟨a7, c7, rfl, hA7, hf7, ho7⟩, hb⟩
          have V7 := Lib.hid (V6.out.below hb V6.out.lt)
          have S7 := Lib.hid (S6.out.below hb)
          have H7 := Lib.hid (H6.out.below hb)
          have B7 := Lib.hid (B6.out.trans (hb.mono B6.out.size))
          have A7 := Lib.hid hA7
          clear hb c0 c1 c2 c3 V6 S6 H6 B6 hA7 hf7 ho7
          go_wp2_with fail
          refine (sRight a7 _ c7 (ad s) w7 rfl (by rw [ad_len, HX.out]; omega) A7.out).mono ?_
          rintro e w8 ⟨rfl, hb⟩
          have V8 := Lib.hid (V7.out.below hb V7.out.lt)
          have S8 := Lib.hid (S7.out.below hb)
          have H8 := Lib.hid (H7.out.below hb)
          have B8 := Lib.hid (B7.out.trans (hb.mono B7.out.size))
          clear hb V7 S7 H7 B7 A7
          obtain ⟨c0, c1, c2, c3, -⟩ := V8.out.cells
          by_cases hi : Inc (ad s)
          · simp only [hi, decide_true]
            have HI := Lib.hid hi
            clear hi
            go_wp2_with fail
            refine (zContains (w.heap.size + 2) 0 1000000 a n c s w8 HX.out (by omega) H8.out S8.out).mono ?_
            rintro e w9 ⟨rfl, hb⟩
            have B9 := Lib.hid (B8.out.trans (hb.mono B8.out.size))
            clear hb c0 c1 c2 c3
            have HE : Hid (decide (LB s 0 1000000) = R) := Lib.hid (by rw [← HR.out]; exact decide_eq_decide.2 ⟨fun h => ⟨D2.out, by rw [HX.out]; exact h64, HOL.out, lb_ok.2 (show LB s (lo true) 1000000 from h), HI.out⟩, fun h => lb_ok.1 h.2.2.2.1⟩)
            obtain ⟨q, hq⟩ : ∃ q, decide (LB s 0 1000000) = q := ⟨_, rfl⟩
            rw [hq] at HE ⊢
            clear hq
            cases q
            all_goals
              go_wp2_with fail
              go_ret
              exact ⟨ret_bool HE.out, B9.out⟩
          · simp only [hi, decide_false]
            have HE : Hid (R = false) := Lib.hid (by rw [← HR.out]; exact decide_eq_false fun h => hi h.2.2.2.2)
            clear hi
            go_wp2_with fail
            go_ret
            exact ⟨ret_bool HE.out.symm, B8.out⟩
        · have h64' : decide ((n : Int) ≤ 64) = false := decide_eq_false (by omega)
          have HE : Hid (R = false) := Lib.hid (by rw [← HR.out]; exact decide_eq_false fun h => h64 (by have := h.2.1; rw [HX.out] at this; exact this))
          clear h64
          go_wp2_with fail
          go_ret
          exact ⟨ret_bool HE.out.symm, B6.out⟩
      · have hd : decide ((1 : Int) ≤ left ∧ left ≤ 1000000) = false := decide_eq_false (fun h => hl (by unfold okL; simp; omega))
        rw [hd]
        have HE : Hid (R = false) := Lib.hid (by rw [← HR.out]; exact decide_eq_false fun h => hl h.2.2.1)
        clear hd hl
        go_wp2_with fail
        go_ret
        exact ⟨ret_bool HE.out.symm, B6.out⟩
end Go.Proofs.YtiabbkjmgaemaaaGreat
