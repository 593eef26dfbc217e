/- What records and time make of what is known: plain facts. -/
import Derived.Test.YtllpmepmgnnoaaaGreatVs
namespace Go.Proofs.YtllpmepmgnnoaaaGreat
set_option linter.unusedVariables false

def lo (ex : Bool) : Int := if ex then 0 else 1
def LB (s : List Hd) (l h : Int) : Prop := ∀ x ∈ s, l ≤ x.2 ∧ x.2 ≤ h
theorem lb_ok {ex : Bool} {s : List Hd} : (∀ x ∈ s, okX ex x) ↔ LB s (lo ex) 1000000 := by
  unfold okX LB lo
  cases ex
  · exact ⟨fun h x hx => by have := h x hx; have h2 := this.2 rfl; simp only [Bool.false_eq_true, if_false]; omega, fun h x hx => by have := h x hx; simp only [Bool.false_eq_true, if_false] at this; exact ⟨by omega, fun _ => by omega⟩⟩
  · exact ⟨fun h x hx => by have := h x hx; simp only [if_true]; omega, fun h x hx => by have := h x hx; simp only [if_true] at this; exact ⟨by omega, fun h => by cases h⟩⟩
theorem LB.nn {s : List Hd} {l h : Int} (hb : LB s l h) (hl : 0 ≤ l) : NN s := fun x hx => by have := hb x hx; omega
theorem LB.weak {s : List Hd} {l h l' : Int} (hb : LB s l h) (hl : l' ≤ l) : LB s l' h := fun x hx => by have := hb x hx; omega
theorem LB.lf {s : List Hd} {l h : Int} (hb : LB s l h) {a : Int} (hm : a ∈ ad s) : l ≤ lf s a ∧ lf s a ≤ h := hb _ (lf_in hm)
theorem keepS_lb {s : List Hd} {B : List Int} {T l h : Int} (hi : Inc (ad s)) (hB : Inc B) (hb : LB s l h) (hT : l ≤ T ∧ T ≤ h) : LB (keepS s B T) l h := by
  intro x hx
  obtain ⟨a, ha, rfl⟩ := List.mem_map.1 hx
  show l ≤ (if a ∈ B then T else lf s a) ∧ (if a ∈ B then T else lf s a) ≤ h
  split
  · exact hT
  · rename_i hn
    exact hb.lf (((uni_mem hi hB a).1 ha).resolve_right hn)
theorem filter_lb {s : List Hd} {l h : Int} (p : Hd → Bool) (hb : LB s l h) : LB (s.filter p) l h := fun x hx => hb x (List.mem_filter.1 hx).1
theorem exS_lb {s : List Hd} {B : List Int} {T l h : Int} (hi : Inc (ad s)) (hB : Inc B) (hb : LB s l h) (hT : l ≤ T ∧ T ≤ h) : LB (exS s B T) l h :=
  keepS_lb (ad_filter_inc _ hi) (dif_inc hB hi) (filter_lb _ hb) hT
theorem askS_lb {s : List Hd} {B : List Int} {T l h : Int} (hi : Inc (ad s)) (hB : Inc B) (hb : LB s l h) (hT : l ≤ T ∧ T ≤ h) : LB (askS s T B) l h := by
  unfold askS
  split
  · exact hb
  · exact keepS_lb hi (int_inc hB (ad_filter_inc _ hi)) hb hT
theorem lf_exS {s : List Hd} {B : List Int} {T : Int} (hi : Inc (ad s)) (hB : Inc B) (hn : NN s) (a : Int) : lf (exS s B T) a = if a ∈ B then (if 0 ≤ lf s a then lf s a else T) else -1 := by
  unfold exS
  rw [keepS_lf (ad_filter_inc _ hi) (dif_inc hB hi) (nn_filter _ hn), lf_filter _ hi hn]
  have hd := dif_mem hB hi a
  have hg := lf_ge hn (a := a)
  by_cases h1 : a ∈ B
  · by_cases h2 : 0 ≤ lf s a
    · rw [if_neg (fun h => (hd.1 h).2 (hg.1 h2)), if_pos ⟨h2, by simpa using h1⟩, if_pos h1, if_pos h2]
    · rw [if_pos (hd.2 ⟨h1, fun h => h2 (hg.2 h)⟩), if_pos h1, if_neg h2]
  · rw [if_neg (fun h => h1 (hd.1 h).1), if_neg (fun h => h1 (by simpa using h.2)), if_neg h1]
theorem lf_askS {s : List Hd} {B : List Int} {la : Int} (hi : Inc (ad s)) (hB : Inc B) (hn : NN s) (hl : 0 ≤ la) (a : Int) : lf (askS s la B) a = if a ∈ B ∧ la < lf s a then la else lf s a := by
  unfold askS
  split
  · rename_i h
    subst h
    rw [if_neg (fun h => by simp at h)]
  · rw [keepS_lf hi (int_inc hB (ad_filter_inc _ hi)) hn]
    have hm := int_mem hB (ad_filter_inc (fun x : Hd => decide (la < x.2)) hi) a
    rw [filter_mem _ hi hn] at hm
    by_cases h : a ∈ B ∧ la < lf s a
    · rw [if_pos h, if_pos (hm.2 ⟨h.1, by omega, by simpa using h.2⟩)]
    · rw [if_neg h, if_neg (fun k => h ⟨(hm.1 k).1, by simpa using (hm.1 k).2.2⟩)]
theorem wantS_mem {s : List Hd} (hi : Inc (ad s)) (hn : NN s) (a : Int) : a ∈ wantS s ↔ 0 < lf s a := by
  unfold wantS
  rw [filter_mem _ hi hn]
  simp only [decide_eq_true_eq]
  omega
theorem tkS_inc {ex : Bool} {left n : Int} {s : List Hd} (hi : Inc (ad s)) : Inc (ad (tkS ex left s n)) := by rw [tkS_ad]; exact ad_filter_inc _ hi
theorem tkS_nn {ex : Bool} {left n : Int} {s : List Hd} : NN (tkS ex left s n) := by
  intro x hx
  obtain ⟨y, _, rfl⟩ := List.mem_map.1 hx
  show 0 ≤ max _ _
  omega
theorem lf_tkS {ex : Bool} {left n : Int} {s : List Hd} (hi : Inc (ad s)) (hn : NN s) (a : Int) : lf (tkS ex left s n) a = if 0 ≤ lf s a ∧ (tkE ex left n = true ∨ n < lf s a) then max (lf s a - n) 0 else -1 := by
  have hm := filter_mem (fun x : Hd => tkE ex left n || decide (n < x.2)) hi hn a
  simp only [Bool.or_eq_true, decide_eq_true_eq] at hm
  by_cases h : 0 ≤ lf s a ∧ (tkE ex left n = true ∨ n < lf s a)
  · rw [if_pos h]
    refine lf_of (tkS_inc hi) ?_
    unfold tkS
    refine List.mem_map.2 ⟨(a, lf s a), List.mem_filter.2 ⟨lf_in ((lf_ge hn).1 h.1), ?_⟩, rfl⟩
    simpa using h.2
  · rw [if_neg h]
    refine lf_none fun hx => h ?_
    rw [tkS_ad] at hx
    exact hm.1 hx
theorem tkS_lb {ex : Bool} {left n : Int} {s : List Hd} (hb : LB s (lo ex) 1000000) (h0 : 0 ≤ n) : LB (tkS ex left s n) (lo (tkE ex left n)) 1000000 := by
  intro x hx
  obtain ⟨y, hy, rfl⟩ := List.mem_map.1 hx
  obtain ⟨hy, hp⟩ := List.mem_filter.1 hy
  have := hb y hy
  have hl : 0 ≤ lo ex := by unfold lo; split <;> omega
  show lo _ ≤ max (y.2 - n) 0 ∧ max (y.2 - n) 0 ≤ 1000000
  refine ⟨?_, by omega⟩
  cases he : tkE ex left n
  · rw [he] at hp
    simp only [Bool.false_or, decide_eq_true_eq] at hp
    unfold lo
    simp only [Bool.false_eq_true, if_false]
    omega
  · unfold lo
    simp only [if_true]
    omega
theorem okM.lb {g : Int} {ex : Bool} {left : Int} {s : List Hd} (h : okM g ex left s) : LB s (lo ex) 1000000 := lb_ok.1 h.2.2.2.1
theorem lo_nn (ex : Bool) : 0 ≤ lo ex := by unfold lo; split <;> omega
theorem okM.nn {g : Int} {ex : Bool} {left : Int} {s : List Hd} (h : okM g ex left s) : NN s := h.lb.nn (lo_nn ex)
theorem okM.inc {g : Int} {ex : Bool} {left : Int} {s : List Hd} (h : okM g ex left s) : Inc (ad s) := h.2.2.2.2
theorem okM.left {g : Int} {ex : Bool} {left : Int} {s : List Hd} (h : okM g ex left s) : 0 ≤ left ∧ left ≤ 1000000 ∧ (ex = true → 1 ≤ left) ∧ (ex = false → left = 0) := by
  have hl := h.2.2.1
  unfold okL at hl
  cases ex
  · simp only [Bool.false_eq_true, if_false] at hl
    exact ⟨by omega, by omega, fun h => by (cases h), fun _ => hl⟩
  · simp only [if_true] at hl
    exact ⟨by omega, by omega, fun _ => hl.1, fun h => by (cases h)⟩
theorem tick_ok {g : Int} {ex : Bool} {left n : Int} {s : List Hd} (h : okM g ex left s) (hn : 0 ≤ n) : okM g (tkE ex left n) (max (left - n) 0) (tkS ex left s n) := by
  refine ⟨h.1, ?_, ?_, lb_ok.2 (tkS_lb h.lb hn), tkS_inc h.inc⟩
  · unfold tkS
    rw [List.length_map]
    exact Nat.le_trans (List.length_filter_le _ _) h.2.1
  · have hl := h.left
    unfold okL tkE
    cases ex
    · have := hl.2.2.2 rfl
      simp only [Bool.false_and, Bool.false_eq_true, if_false]
      omega
    · have := hl.2.2.1 rfl
      by_cases hp : 0 < max (left - n) 0
      · simp only [Bool.true_and, hp, decide_true, if_true]; omega
      · simp only [Bool.true_and, hp, decide_false, Bool.false_eq_true, if_false]; omega
theorem cap_ok {g : Int} {ex : Bool} {left : Int} {s : List Hd} {r : Hr} (h : okM g ex left s) (hr : r.s.length ≤ 64 → okM g r.ex r.left r.s) : okM g (capH ex left s r).ex (capH ex left s r).left (capH ex left s r).s := by
  unfold capH
  split
  · rename_i hl; exact hr hl
  · exact h
theorem hear_ok {g kp la : Int} {ex : Bool} {left : Int} {s : List Hd} (kind : Int) (xs : List Int) (ht : mayP kp la) (h : okM g ex left s) :
    okM g (hearP g kp la ex left s kind xs).ex (hearP g kp la ex left s kind xs).left (hearP g kp la ex left s kind xs).s := by
  have hB := mk_inc xs
  have hi := h.inc
  have hb := h.lb
  have hl := h.left
  obtain ⟨t1, t2, t3⟩ := ht
  have hlo : lo ex ≤ 1 := by unfold lo; split <;> omega
  have hT : lo ex ≤ la ∧ la ≤ 1000000 := ⟨by omega, by omega⟩
  have hK : lo ex ≤ kp ∧ kp ≤ 1000000 := ⟨by omega, by omega⟩
  have hb0 : LB s 0 1000000 := hb.weak (lo_nn ex)
  have okt : ∀ {s' : List Hd} {l' : Int}, s'.length ≤ 64 → 1 ≤ l' ∧ l' ≤ 1000000 → LB s' 0 1000000 → Inc (ad s') → okM g true l' s' := fun h1 h2 h3 h4 => ⟨h.1, h1, h2, lb_ok.2 h3, h4⟩
  unfold hearP
  split
  · exact cap_ok h fun h64 => ⟨h.1, h64, h.2.2.1, lb_ok.2 (keepS_lb hi hB hb hK), keepS_inc _ hi hB⟩
  split
  · refine cap_ok h fun h64 => okt h64 ⟨by show 1 ≤ kp; omega, t3⟩ (exS_lb hi hB hb0 ?_) (exS_inc _ hi hB)
    split <;> omega
  split
  · refine cap_ok h fun h64 => ⟨h.1, h64, ?_, lb_ok.2 (askS_lb (keepS_inc _ hi hB) (dif_inc (wantS_inc (keepS_inc _ hi hB)) hB) (keepS_lb hi hB hb hK) hT), askS_inc _ (keepS_inc _ hi hB) (dif_inc (wantS_inc (keepS_inc _ hi hB)) hB)⟩
    have h3 := h.2.2.1
    unfold hToIn okL at *
    cases ex
    · simpa using h3
    · simp only [if_true] at h3 ⊢; omega
  split
  · refine cap_ok h fun h64 => okt h64 ⟨by show 1 ≤ kp; omega, t3⟩ (askS_lb (exS_inc _ hi hB) (wantS_inc (exS_inc _ hi hB)) (exS_lb hi hB hb0 ⟨hl.1, hl.2.1⟩) ⟨by omega, by omega⟩) (askS_inc _ (exS_inc _ hi hB) (wantS_inc (exS_inc _ hi hB)))
  split
  · refine cap_ok h fun h64 => ?_
    cases ex
    · simp only [hBlock, Bool.false_eq_true, if_false] at h64 ⊢
      exact ⟨h.1, h64, h.2.2.1, lb_ok.2 (askS_lb hi (int_inc hB (wantS_inc hi)) hb hT), askS_inc _ hi (int_inc hB (wantS_inc hi))⟩
    · simp only [hBlock, if_true] at h64 ⊢
      have hi2 := keepS_inc (s := s) (l := dif (mk xs) (ad s)) left hi (dif_inc hB hi)
      exact ⟨h.1, h64, h.2.2.1, lb_ok.2 (askS_lb hi2 (int_inc hB (wantS_inc hi2)) (keepS_lb hi (dif_inc hB hi) hb ⟨by have := hl.2.2.1 rfl; show (0 : Int) ≤ left; omega, hl.2.1⟩) hT), askS_inc _ hi2 (int_inc hB (wantS_inc hi2))⟩
  · exact h
end Go.Proofs.YtllpmepmgnnoaaaGreat
