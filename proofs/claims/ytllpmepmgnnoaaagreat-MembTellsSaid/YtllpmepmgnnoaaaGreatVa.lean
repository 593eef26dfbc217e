/- What a router knows of a group: sources that are kept, and how long; what records and ticks make of it (plain). -/
import Derived.Test.YtllpmepmgnnoaaaGreatPf
namespace Go.Proofs.YtllpmepmgnnoaaaGreat
set_option linter.unusedVariables false

/-- A source, and how long it is kept. -/
abbrev Hd := Int × Int
def ad (s : List Hd) : List Int := s.map Prod.fst
def lf : List Hd → Int → Int
  | [], _ => -1
  | x :: r, a => if x.1 = a then x.2 else lf r a
def NN (s : List Hd) : Prop := ∀ x ∈ s, 0 ≤ x.2
def kof (xs : List Int) (f : Int → Int) : List Hd := xs.map fun a => (a, f a)
theorem ad_mem {s : List Hd} {a : Int} : a ∈ ad s ↔ ∃ t, (a, t) ∈ s := by
  unfold ad
  rw [List.mem_map]
  constructor
  · rintro ⟨⟨x, t⟩, h, rfl⟩
    exact ⟨t, h⟩
  · rintro ⟨t, h⟩
    exact ⟨_, h, rfl⟩
theorem lf_none : ∀ {s : List Hd} {a : Int}, a ∉ ad s → lf s a = -1
  | [], _, _ => rfl
  | x :: r, a, h => by
    unfold ad at h
    rw [List.map_cons, List.mem_cons, not_or] at h
    unfold lf
    rw [if_neg (fun e => h.1 e.symm)]
    exact lf_none (s := r) h.2
theorem lf_in : ∀ {s : List Hd} {a : Int}, a ∈ ad s → (a, lf s a) ∈ s
  | [], a, h => by cases h
  | x :: r, a, h => by
    unfold lf
    by_cases e : x.1 = a
    · rw [if_pos e]
      obtain ⟨x1, x2⟩ := x
      simp only at e
      subst e
      exact List.mem_cons_self
    · rw [if_neg e]
      unfold ad at h
      rw [List.map_cons, List.mem_cons] at h
      rcases h with h | h
      · exact absurd h.symm e
      · exact List.mem_cons_of_mem _ (lf_in (s := r) h)
theorem lf_of : ∀ {s : List Hd} {a t : Int}, Inc (ad s) → (a, t) ∈ s → lf s a = t
  | x :: r, a, t, h, hm => by
    unfold ad at h
    rw [List.map_cons, inc_cons] at h
    unfold lf
    rcases List.mem_cons.1 hm with e | e
    · subst e
      rw [if_pos rfl]
    · have := h.1 a (List.mem_map.2 ⟨_, e, rfl⟩)
      rw [if_neg (by omega)]
      exact lf_of (s := r) h.2 e
theorem lf_ge {s : List Hd} (h : NN s) {a : Int} : 0 ≤ lf s a ↔ a ∈ ad s := by
  constructor
  · intro h0
    refine Classical.byContradiction fun hn => ?_
    rw [lf_none hn] at h0
    omega
  · intro hm
    exact h _ (lf_in hm)
theorem lf_low {s : List Hd} (h : NN s) (a : Int) : -1 ≤ lf s a := by
  by_cases hm : a ∈ ad s
  · have := (lf_ge h).2 hm; omega
  · rw [lf_none hm]; omega
theorem lf_neg {s : List Hd} (h : NN s) {a : Int} : lf s a = -1 ↔ a ∉ ad s := by
  rw [← lf_ge h]
  have := lf_low h a
  omega
theorem ad_kof (xs : List Int) (f : Int → Int) : ad (kof xs f) = xs := by
  unfold ad kof
  rw [List.map_map]
  exact List.map_id' xs
theorem lf_kof {xs : List Int} {f : Int → Int} {a : Int} : lf (kof xs f) a = if a ∈ xs then f a else -1 := by
  induction xs with
  | nil => rfl
  | cons x r ih =>
    unfold kof at ih ⊢
    rw [List.map_cons]
    unfold lf
    simp only
    by_cases e : x = a
    · subst e
      rw [if_pos rfl, if_pos List.mem_cons_self]
    · rw [if_neg e, ih]
      have : a ∈ x :: r ↔ a ∈ r := by
        rw [List.mem_cons]
        exact ⟨fun h => h.resolve_left (fun h => e h.symm), .inr⟩
      simp only [this]
theorem kof_lf : ∀ {s : List Hd}, Inc (ad s) → s = kof (ad s) (lf s) := by
  intro s h
  unfold kof ad
  rw [List.map_map]
  symm
  calc s.map ((fun a => (a, lf s a)) ∘ Prod.fst) = s.map id := List.map_congr_left fun x hx => by
        obtain ⟨a, t⟩ := x
        simp only [Function.comp, id]
        rw [lf_of h hx]
    _ = s := List.map_id s
theorem kof_congr {xs : List Int} {f g : Int → Int} (h : ∀ a ∈ xs, f a = g a) : kof xs f = kof xs g :=
  List.map_congr_left fun a ha => by rw [h a ha]
theorem s_ext {s t : List Hd} (h1 : Inc (ad s)) (h2 : Inc (ad t)) (n1 : NN s) (n2 : NN t) (h : ∀ a, lf s a = lf t a) : s = t := by
  have e : ad s = ad t := inc_ext h1 h2 fun a => by rw [← lf_ge n1, ← lf_ge n2, h]
  rw [kof_lf h1, kof_lf h2, e]
  exact kof_congr fun a _ => h a
theorem nn_kof {xs : List Int} {f : Int → Int} (h : ∀ a ∈ xs, 0 ≤ f a) : NN (kof xs f) := by
  intro x hx
  obtain ⟨a, ha, rfl⟩ := List.mem_map.1 hx
  exact h a ha
theorem ad_filter_inc {s : List Hd} (p : Hd → Bool) (h : Inc (ad s)) : Inc (ad (s.filter p)) := List.Pairwise.sublist (List.filter_sublist.map _) h
theorem nn_filter {s : List Hd} (p : Hd → Bool) (h : NN s) : NN (s.filter p) := fun x hx => h x (List.mem_filter.1 hx).1
theorem lf_filter {s : List Hd} (p : Hd → Bool) (h : Inc (ad s)) (n : NN s) (a : Int) : lf (s.filter p) a = if 0 ≤ lf s a ∧ p (a, lf s a) = true then lf s a else -1 := by
  by_cases hc : 0 ≤ lf s a ∧ p (a, lf s a) = true
  · rw [if_pos hc]
    exact lf_of (ad_filter_inc p h) (List.mem_filter.2 ⟨lf_in ((lf_ge n).1 hc.1), hc.2⟩)
  · rw [if_neg hc]
    refine lf_none fun hm => hc ?_
    obtain ⟨t, ht⟩ := ad_mem.1 hm
    obtain ⟨h1, h2⟩ := List.mem_filter.1 ht
    have e := lf_of h h1
    exact ⟨by rw [e]; exact n _ h1, by rw [e]; exact h2⟩
theorem filter_mem {s : List Hd} (p : Hd → Bool) (h : Inc (ad s)) (n : NN s) (a : Int) : a ∈ ad (s.filter p) ↔ 0 ≤ lf s a ∧ p (a, lf s a) = true := by
  rw [← lf_ge (nn_filter p n), lf_filter p h n]
  split
  · rename_i hc; exact ⟨fun _ => hc, fun _ => hc.1⟩
  · rename_i hc; exact ⟨fun h0 => absurd h0 (by omega), fun h0 => absurd h0 hc⟩
theorem ad_len (s : List Hd) : (ad s).length = s.length := List.length_map _
theorem inc_nodup {l : List Int} (h : Inc l) : l.Nodup := List.Pairwise.imp (fun h => by omega) h

/-- A set is kept for a time. -/
def keepS (s : List Hd) (l : List Int) (T : Int) : List Hd := kof (uni (ad s) l) fun a => if a ∈ l then T else lf s a
theorem keepS_ad {s : List Hd} {l : List Int} (T : Int) : ad (keepS s l T) = uni (ad s) l := ad_kof _ _
theorem keepS_inc {s : List Hd} {l : List Int} (T : Int) (h : Inc (ad s)) (hl : Inc l) : Inc (ad (keepS s l T)) := by rw [keepS_ad]; exact uni_inc h hl
theorem keepS_nn {s : List Hd} {l : List Int} {T : Int} (hT : 0 ≤ T) (h : Inc (ad s)) (hl : Inc l) (n : NN s) : NN (keepS s l T) := by
  refine nn_kof fun a ha => ?_
  split
  · exact hT
  · rename_i hn
    rw [uni_mem h hl] at ha
    exact (lf_ge n).2 (ha.resolve_right hn)
theorem keepS_lf {s : List Hd} {l : List Int} {T : Int} (h : Inc (ad s)) (hl : Inc l) (n : NN s) (a : Int) : lf (keepS s l T) a = if a ∈ l then T else lf s a := by
  unfold keepS
  rw [lf_kof]
  by_cases hm : a ∈ l
  · rw [if_pos ((uni_mem h hl a).2 (.inr hm)), if_pos hm]
  · rw [if_neg hm]
    by_cases hs : a ∈ ad s
    · rw [if_pos ((uni_mem h hl a).2 (.inl hs))]
    · rw [if_neg (fun hx => ((uni_mem h hl a).1 hx).elim hs hm), lf_none hs]
/-- The row that is sorted ahead of that. -/
def keepR (s : List Hd) (l : List Int) (T : Int) : List Hd := s.filter (fun x => !decide (x.1 ∈ l)) ++ l.map fun a => (a, T)
theorem keepR_nodup {s : List Hd} {l : List Int} (T : Int) (h : Inc (ad s)) (hl : Inc l) : (ad (keepR s l T)).Nodup := by
  unfold keepR ad
  rw [List.map_append, List.map_map]
  have e : l.map (Prod.fst ∘ fun a => (a, T)) = l := List.map_id' l
  rw [e]
  refine List.nodup_append.2 ⟨inc_nodup (ad_filter_inc _ h), inc_nodup hl, ?_⟩
  intro a ha b hb e
  subst e
  obtain ⟨x, hx, rfl⟩ := List.mem_map.1 ha
  have := (List.mem_filter.1 hx).2
  simp only [Bool.not_eq_true', decide_eq_false_iff_not] at this
  exact this hb
theorem keepR_mem {s : List Hd} {l : List Int} {T a t : Int} : (a, t) ∈ keepR s l T ↔ ((a, t) ∈ s ∧ a ∉ l) ∨ (a ∈ l ∧ t = T) := by
  unfold keepR
  rw [List.mem_append, List.mem_filter, List.mem_map]
  simp only [Bool.not_eq_true', decide_eq_false_iff_not, Prod.mk.injEq]
  constructor
  · rintro (h | ⟨x, h1, rfl, rfl⟩)
    · exact .inl h
    · exact .inr ⟨h1, rfl⟩
  · rintro (h | ⟨h1, rfl⟩)
    · exact .inl h
    · exact .inr ⟨a, h1, rfl, rfl⟩
theorem keep_sorted {s d : List Hd} {l : List Int} {T : Int} (h : Inc (ad s)) (hl : Inc l) (hp : d.Perm (keepR s l T)) (hso : Inc (ad d)) : d = keepS s l T := by
  have hmem : ∀ a t, (a, t) ∈ d ↔ ((a, t) ∈ s ∧ a ∉ l) ∨ (a ∈ l ∧ t = T) := fun a t => by rw [hp.mem_iff, keepR_mem]
  have e : ad d = uni (ad s) l := inc_ext hso (uni_inc h hl) fun a => by
    rw [uni_mem h hl, ad_mem, ad_mem]
    constructor
    · rintro ⟨t, ht⟩
      rcases (hmem a t).1 ht with h1 | h1
      · exact .inl ⟨t, h1.1⟩
      · exact .inr h1.1
    · intro h1
      by_cases hm : a ∈ l
      · exact ⟨T, (hmem a T).2 (.inr ⟨hm, rfl⟩)⟩
      · obtain ⟨t, ht⟩ := h1.resolve_right hm
        exact ⟨t, (hmem a t).2 (.inl ⟨ht, hm⟩)⟩
  rw [kof_lf hso, e]
  unfold keepS
  refine kof_congr fun a ha => ?_
  by_cases hm : a ∈ l
  · rw [if_pos hm]
    exact lf_of hso ((hmem a T).2 (.inr ⟨hm, rfl⟩))
  · rw [if_neg hm]
    have hs : a ∈ ad s := ((uni_mem h hl a).1 ha).resolve_right hm
    exact lf_of hso ((hmem a _).2 (.inl ⟨lf_in hs, hm⟩))
theorem sorted_inc {d : List Hd} (hn : (ad d).Nodup) (hs : ∀ i j (hi : i < d.length) (hj : j < d.length), i < j → ¬ d[j].1 < d[i].1) : Inc (ad d) := by
  refine List.pairwise_iff_getElem.2 fun i j hi hj hij => ?_
  have h1 : i < d.length := by rwa [ad_len] at hi
  have h2 : j < d.length := by rwa [ad_len] at hj
  have h3 := hs i j h1 h2 hij
  have h4 := (List.pairwise_iff_getElem.1 hn) i j hi hj hij
  have e1 : (ad d)[i] = d[i].1 := by simp [ad]
  have e2 : (ad d)[j] = d[j].1 := by simp [ad]
  rw [e1, e2] at h4 ⊢
  omega
theorem keepS_len (s : List Hd) (l : List Int) (T : Int) : (keepS s l T).length ≤ s.length + l.length := by
  rw [← ad_len, keepS_ad]
  have := those_len (fun p q => p || q) (ad s) l
  rw [ad_len] at this
  exact this
end Go.Proofs.YtllpmepmgnnoaaaGreat
