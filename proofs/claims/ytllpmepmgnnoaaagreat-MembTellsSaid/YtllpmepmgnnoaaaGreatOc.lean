/- What each step of the library's sort leaves to be sorted: plain. -/
import Derived.Test.YtllpmepmgnnoaaaGreatNz
import Derived.Sort.LotB
namespace Go.Proofs.YtllpmepmgnnoaaaGreat
set_option linter.unusedVariables false
open Go.Sort (PermIn permIn_all permIn_trans permIn_mono permIn_refl)

/-- Rising from a to b. -/
def Srt (a b : Nat) (d : Array Int) : Prop := ∀ i j, a ≤ i → i < j → j < b → d[i]! ≤ d[j]!
theorem srt_iff {a b : Nat} {d : Array Int} : Srt a b d ↔ Go.Sort.SortedIn ltI a b d := by
  constructor
  · intro h i j h1 h2 h3
    have := h i j h1 h2 h3
    simp [Go.Sort.ltInt]; omega
  · intro h i j h1 h2 h3
    have := h i j h1 h2 h3
    simp [Go.Sort.ltInt] at this; omega
/-- Nothing is less than what lies ahead. -/
def Blw (a b : Nat) (d : Array Int) : Prop := a = 0 ∨ ∀ i, a ≤ i → i < b → d[a - 1]! ≤ d[i]!
theorem blw_iff {a b : Nat} {d : Array Int} : Blw a b d ↔ Go.Sort.Below ltI a b d := by
  constructor
  · rintro (h | h)
    · exact .inl h
    · refine .inr fun i h1 h2 => ?_
      have := h i h1 h2
      simp [Go.Sort.ltInt]; omega
  · rintro (h | h)
    · exact .inl h
    · refine .inr fun i h1 h2 => ?_
      have := h i h1 h2
      simp [Go.Sort.ltInt] at this; omega
theorem Blw.perm {a b : Nat} {d d' : Array Int} (h : Blw a b d) (hb : b ≤ d.size) (hp : PermIn a b d d') : Blw a b d' := by
  rcases h with h | h
  · exact .inl h
  · by_cases ha : a = 0
    · exact .inl ha
    · refine .inr ?_
      rw [hp.2.1 (a - 1) (.inl (by omega))]
      exact permIn_all d d' a b (fun x => d[a - 1]! ≤ x) hb hp h
theorem Blw.mono {a b b' : Nat} {d : Array Int} (h : Blw a b d) (hb : b' ≤ b) : Blw a b' d := h.imp id fun h i h1 h2 => h i h1 (by omega)

/-- What is left to do, and what comes of it. -/
def Left (a b a' b' : Nat) (d dk : Array Int) : Prop := Blw a' b' dk ∧ ∀ d'', PermIn a' b' dk d'' → Srt a' b' d'' → PermIn a b d d'' ∧ Srt a b d''
theorem left_trans {a b a1 b1 a2 b2 : Nat} {d d1 d2 : Array Int} (h : Left a b a1 b1 d d1) (k : Left a1 b1 a2 b2 d1 d2) : Left a b a2 b2 d d2 :=
  ⟨k.1, fun d'' h1 h2 => let r := k.2 d'' h1 h2; h.2 d'' r.1 r.2⟩
theorem left_perm {a b a1 b1 : Nat} {d d1 d2 : Array Int} (h : Left a b a1 b1 d d1) (hb : b1 ≤ d1.size) (hp : PermIn a1 b1 d1 d2) : Left a b a1 b1 d d2 :=
  ⟨h.1.perm hb hp, fun d'' h1 h2 => h.2 d'' (permIn_trans _ _ _ _ _ hp h1) h2⟩

theorem step_eq {a b mid : Nat} {d3 d4 : Array Int} {p : Int} (hE : EqPost a b d3 d4 p mid) (hs : b ≤ d3.size) (hlow : ∀ i, a ≤ i → i < b → p ≤ d3[i]!) : Left a b mid b d3 d4 := by
  obtain ⟨h1, h2, hp, h3, h4⟩ := hE
  have hs4 : d4.size = d3.size := hp.1
  have hlow4 : ∀ i, a ≤ i → i < b → p ≤ d4[i]! := permIn_all d3 d4 a b (fun x => p ≤ x) hs hp hlow
  refine ⟨.inr fun i i1 i2 => ?_, fun d'' hp2 hsrt => ⟨permIn_trans _ _ _ _ _ hp (permIn_mono d4 d'' mid b a b (by omega) (Nat.le_refl _) (by omega) hp2), fun i j i1 i2 i3 => ?_⟩⟩
  · have := h3 (mid - 1) (by omega) (by omega)
    have := h4 i i1 i2
    omega
  · have hhi : ∀ t, mid ≤ t → t < b → p < d''[t]! := permIn_all d4 d'' mid b (fun x => p < x) (by omega) hp2 h4
    by_cases e1 : mid ≤ i
    · exact hsrt i j e1 i2 i3
    · rw [hp2.2.1 i (.inl (by omega))]
      have := h3 i i1 (by omega)
      by_cases e2 : mid ≤ j
      · have := hhi j e2 i3
        omega
      · rw [hp2.2.1 j (.inl (by omega))]
        have := hlow4 j (by omega) i3
        omega

theorem step_left {a b mid : Nat} {d3 d4 d5 : Array Int} (hP : PartPost a b d3 d4 mid) (hs : b ≤ d3.size) (hp5 : PermIn a mid d4 d5) (hs5 : Srt a mid d5) : Left a b (mid + 1) b d3 d5 := by
  obtain ⟨h1, h2, hp, h3, h4⟩ := hP
  have hs4 : d4.size = d3.size := hp.1
  have hs5' : d5.size = d4.size := hp5.1
  have hm : d5[mid]! = d4[mid]! := hp5.2.1 mid (.inr (Nat.le_refl _))
  have hlo : ∀ t, a ≤ t → t < mid → d5[t]! < d4[mid]! := permIn_all d4 d5 a mid (fun x => x < d4[mid]!) (by omega) hp5 h3
  have hhi : ∀ t, mid < t → t < b → d4[mid]! ≤ d5[t]! := fun t t1 t2 => by rw [hp5.2.1 t (.inr (by omega))]; exact h4 t t1 t2
  refine ⟨.inr fun i i1 i2 => ?_, fun d'' hp2 hsrt => ⟨?_, fun i j i1 i2 i3 => ?_⟩⟩
  · rw [Nat.add_sub_cancel, hm]
    exact hhi i (by omega) i2
  · exact permIn_trans _ _ _ _ _ hp (permIn_trans _ _ _ _ _ (permIn_mono d4 d5 a mid a b (Nat.le_refl _) (by omega) (by omega) hp5) (permIn_mono d5 d'' (mid + 1) b a b (by omega) (Nat.le_refl _) (by omega) hp2))
  · have hhi2 : ∀ t, mid + 1 ≤ t → t < b → d4[mid]! ≤ d''[t]! := permIn_all d5 d'' (mid + 1) b (fun x => d4[mid]! ≤ x) (by omega) hp2 (fun t t1 t2 => hhi t (by omega) t2)
    by_cases e1 : mid + 1 ≤ i
    · exact hsrt i j e1 i2 i3
    · rw [hp2.2.1 i (.inl (by omega))]
      by_cases e2 : mid + 1 ≤ j
      · have := hhi2 j e2 i3
        by_cases e3 : i = mid
        · rw [e3, hm]; exact this
        · have := hlo i i1 (by omega)
          omega
      · rw [hp2.2.1 j (.inl (by omega))]
        by_cases e3 : j = mid
        · rw [e3, hm]
          have := hlo i i1 (by omega)
          omega
        · exact hs5 i j i1 i2 (by omega)

theorem step_right {a b mid : Nat} {d3 d4 d5 : Array Int} (hP : PartPost a b d3 d4 mid) (hs : b ≤ d3.size) (hB : Blw a b d3) (hp5 : PermIn (mid + 1) b d4 d5) (hs5 : Srt (mid + 1) b d5) : Left a b a mid d3 d5 := by
  have hB4 : Blw a b d4 := hB.perm hs hP.2.2.1
  obtain ⟨h1, h2, hp, h3, h4⟩ := hP
  have hs4 : d4.size = d3.size := hp.1
  have hs5' : d5.size = d4.size := hp5.1
  have hm : d5[mid]! = d4[mid]! := hp5.2.1 mid (.inl (by omega))
  have hhi : ∀ t, mid + 1 ≤ t → t < b → d4[mid]! ≤ d5[t]! := permIn_all d4 d5 (mid + 1) b (fun x => d4[mid]! ≤ x) (by omega) hp5 (fun t t1 t2 => h4 t (by omega) t2)
  have hlo : ∀ t, a ≤ t → t < mid → d5[t]! < d4[mid]! := fun t t1 t2 => by rw [hp5.2.1 t (.inl (by omega))]; exact h3 t t1 t2
  refine ⟨?_, fun d'' hp2 hsrt => ⟨?_, fun i j i1 i2 i3 => ?_⟩⟩
  · rcases hB4 with e | e
    · exact .inl e
    · by_cases ha : a = 0
      · exact .inl ha
      · refine .inr fun i i1 i2 => ?_
        rw [hp5.2.1 (a - 1) (.inl (by omega)), hp5.2.1 i (.inl (by omega))]
        exact e i i1 (by omega)
  · exact permIn_trans _ _ _ _ _ hp (permIn_trans _ _ _ _ _ (permIn_mono d4 d5 (mid + 1) b a b (by omega) (Nat.le_refl _) (by omega) hp5) (permIn_mono d5 d'' a mid a b (Nat.le_refl _) (by omega) (by omega) hp2))
  · have hlo2 : ∀ t, a ≤ t → t < mid → d''[t]! < d4[mid]! := permIn_all d5 d'' a mid (fun x => x < d4[mid]!) (by omega) hp2 hlo
    by_cases e1 : j < mid
    · exact hsrt i j i1 i2 e1
    · rw [hp2.2.1 j (.inr (by omega))]
      by_cases e2 : i < mid
      · have := hlo2 i i1 e2
        by_cases e3 : j = mid
        · rw [e3, hm]; omega
        · have := hhi j (by omega) i3
          omega
      · rw [hp2.2.1 i (.inr (by omega))]
        by_cases e3 : i = mid
        · rw [e3, hm]; exact hhi j (by omega) i3
        · exact hs5 i j (by omega) i2 i3
theorem left_done {a b a' b' : Nat} {d dk d'' : Array Int} (h : Left a b a' b' d dk) (h1 : PermIn a' b' dk d'') (h2 : Go.Sort.SortedIn ltI a' b' d'') : PermIn a b d d'' ∧ Srt a b d'' := h.2 d'' h1 (srt_iff.2 h2)
theorem left_start {a b : Nat} {d : Array Int} (h : Blw a b d) : Left a b a b d d := ⟨h, fun _ h1 h2 => ⟨h1, h2⟩⟩
end Go.Proofs.YtllpmepmgnnoaaaGreat
