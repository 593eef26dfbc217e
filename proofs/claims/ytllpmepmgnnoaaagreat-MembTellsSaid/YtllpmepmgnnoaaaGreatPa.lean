/- Sets of numbers as rows that rise: plain. -/
import Derived.Test.YtllpmepmgnnoaaaGreatBy
namespace Go.Proofs.YtllpmepmgnnoaaaGreat
set_option linter.unusedVariables false

/-- A row that rises, none twice. -/
def Inc (l : List Int) : Prop := l.Pairwise (· < ·)
theorem inc_nil : Inc [] := List.Pairwise.nil
theorem inc_cons {x : Int} {l : List Int} : Inc (x :: l) ↔ (∀ y ∈ l, x < y) ∧ Inc l := List.pairwise_cons
theorem inc_ext : ∀ {l m : List Int}, Inc l → Inc m → (∀ x, x ∈ l ↔ x ∈ m) → l = m
  | [], [], _, _, _ => rfl
  | [], y :: m, _, _, h => absurd ((h y).2 (List.mem_cons_self ..)) (by simp)
  | x :: l, [], _, _, h => absurd ((h x).1 (List.mem_cons_self ..)) (by simp)
  | x :: l, y :: m, hl, hm, h => by
    rw [inc_cons] at hl hm
    have e : x = y := by
      have h1 := (h x).1 (List.mem_cons_self ..)
      have h2 := (h y).2 (List.mem_cons_self ..)
      rcases List.mem_cons.1 h1 with h1 | h1
      · exact h1
      · rcases List.mem_cons.1 h2 with h2 | h2
        · exact h2.symm
        · have := hm.1 x h1; have := hl.1 y h2; omega
    subst e
    rw [inc_ext hl.2 hm.2 fun z => ?_]
    constructor
    · intro hz
      have := hl.1 z hz
      rcases List.mem_cons.1 ((h z).1 (List.mem_cons_of_mem _ hz)) with e | e
      · omega
      · exact e
    · intro hz
      have := hm.1 z hz
      rcases List.mem_cons.1 ((h z).2 (List.mem_cons_of_mem _ hz)) with e | e
      · omega
      · exact e

/-- Two rows gone through at once: each number, and in which of them it is. -/
def thr : List Int → List Int → List (Int × Bool × Bool)
  | [], [] => []
  | x :: a, [] => (x, true, false) :: thr a []
  | [], y :: b => (y, false, true) :: thr [] b
  | x :: a, y :: b =>
    if x < y then (x, true, false) :: thr a (y :: b)
    else if y < x then (y, false, true) :: thr (x :: a) b
    else (x, true, true) :: thr a b
termination_by a b => a.length + b.length
theorem thr_nil : thr [] [] = [] := by rw [thr]
theorem thr_l (x : Int) (a : List Int) : thr (x :: a) [] = (x, true, false) :: thr a [] := by rw [thr]
theorem thr_r (y : Int) (b : List Int) : thr [] (y :: b) = (y, false, true) :: thr [] b := by rw [thr]
theorem thr_lt {x y : Int} (h : x < y) (a b : List Int) : thr (x :: a) (y :: b) = (x, true, false) :: thr a (y :: b) := by rw [thr, if_pos h]
theorem thr_gt {x y : Int} (h : y < x) (a b : List Int) : thr (x :: a) (y :: b) = (y, false, true) :: thr (x :: a) b := by rw [thr, if_neg (by omega), if_pos h]
theorem thr_eq (x : Int) (a b : List Int) : thr (x :: a) (x :: b) = (x, true, true) :: thr a b := by rw [thr, if_neg (by omega), if_neg (by omega)]

theorem thr_ind {P : List Int → List Int → Prop} (h0 : P [] []) (hl : ∀ x a, P a [] → P (x :: a) []) (hr : ∀ y b, P [] b → P [] (y :: b))
    (h1 : ∀ x y a b, x < y → P a (y :: b) → P (x :: a) (y :: b)) (h2 : ∀ x y a b, y < x → P (x :: a) b → P (x :: a) (y :: b)) (h3 : ∀ x a b, P a b → P (x :: a) (x :: b)) : ∀ a b, P a b
  | [], [] => h0
  | x :: a, [] => hl x a (thr_ind h0 hl hr h1 h2 h3 a [])
  | [], y :: b => hr y b (thr_ind h0 hl hr h1 h2 h3 [] b)
  | x :: a, y :: b => by
    rcases Int.lt_trichotomy x y with h | h | h
    · exact h1 x y a b h (thr_ind h0 hl hr h1 h2 h3 a (y :: b))
    · subst h; exact h3 x a b (thr_ind h0 hl hr h1 h2 h3 a b)
    · exact h2 x y a b h (thr_ind h0 hl hr h1 h2 h3 (x :: a) b)
termination_by a b => a.length + b.length

theorem thr_len (a b : List Int) : (thr a b).length ≤ a.length + b.length := by
  refine thr_ind (P := fun a b => (thr a b).length ≤ a.length + b.length) ?_ ?_ ?_ ?_ ?_ ?_ a b
  · rw [thr_nil]; simp
  · intro x a h; rw [thr_l]; simp at h ⊢; omega
  · intro y b h; rw [thr_r]; simp at h ⊢; omega
  · intro x y a b hxy h; rw [thr_lt hxy]; simp at h ⊢; omega
  · intro x y a b hxy h; rw [thr_gt hxy]; simp at h ⊢; omega
  · intro x a b h; rw [thr_eq]; simp at h ⊢; omega

/-- Each number that comes is of one row or the other, and is told so. -/
theorem thr_mem (a b : List Int) (ha : Inc a) (hb : Inc b) (t : Int × Bool × Bool) : t ∈ thr a b ↔ (t.1 ∈ a ∨ t.1 ∈ b) ∧ t.2.1 = decide (t.1 ∈ a) ∧ t.2.2 = decide (t.1 ∈ b) := by
  refine thr_ind (P := fun a b => Inc a → Inc b → ∀ t, t ∈ thr a b ↔ (t.1 ∈ a ∨ t.1 ∈ b) ∧ t.2.1 = decide (t.1 ∈ a) ∧ t.2.2 = decide (t.1 ∈ b)) ?_ ?_ ?_ ?_ ?_ ?_ a b ha hb t
  · intro _ _ t; rw [thr_nil]; simp
  · intro x a ih h1 h2 t
    rw [inc_cons] at h1
    rw [thr_l, List.mem_cons, ih h1.2 h2]
    obtain ⟨z, p, q⟩ := t
    by_cases e : z = x
    · subst e
      have : z ∉ a := fun h => by have := h1.1 z h; omega
      simp [this]
    · simp [e]
  · intro y b ih h1 h2 t
    rw [inc_cons] at h2
    rw [thr_r, List.mem_cons, ih h1 h2.2]
    obtain ⟨z, p, q⟩ := t
    by_cases e : z = y
    · subst e
      have : z ∉ b := fun h => by have := h2.1 z h; omega
      simp [this]
    · simp [e]
  · intro x y a b hxy ih h1 h2 t
    have h2' := h2
    rw [inc_cons] at h1 h2'
    rw [thr_lt hxy, List.mem_cons, ih h1.2 h2]
    obtain ⟨z, p, q⟩ := t
    by_cases e : z = x
    · subst e
      have n1 : z ∉ a := fun h => by have := h1.1 z h; omega
      have n2 : z ∉ b := fun h => by have := h2'.1 z h; omega
      have n3 : ¬ z = y := by omega
      simp [n1, n2, n3]
    · simp [e]
  · intro x y a b hxy ih h1 h2 t
    have h1' := h1
    rw [inc_cons] at h2 h1'
    rw [thr_gt hxy, List.mem_cons, ih h1 h2.2]
    obtain ⟨z, p, q⟩ := t
    by_cases e : z = y
    · subst e
      have n1 : z ∉ a := fun h => by have := h1'.1 z h; omega
      have n2 : z ∉ b := fun h => by have := h2.1 z h; omega
      have n3 : ¬ z = x := by omega
      simp [n1, n2, n3]
    · simp [e]
  · intro x a b ih h1 h2 t
    rw [inc_cons] at h1 h2
    rw [thr_eq, List.mem_cons, ih h1.2 h2.2]
    obtain ⟨z, p, q⟩ := t
    by_cases e : z = x
    · subst e
      have n1 : z ∉ a := fun h => by have := h1.1 z h; omega
      have n2 : z ∉ b := fun h => by have := h2.1 z h; omega
      simp [n1, n2]
    · simp [e]
theorem thr_inc (a b : List Int) (ha : Inc a) (hb : Inc b) : (thr a b).Pairwise (fun s t => s.1 < t.1) := by
  refine thr_ind (P := fun a b => Inc a → Inc b → (thr a b).Pairwise (fun s t => s.1 < t.1)) ?_ ?_ ?_ ?_ ?_ ?_ a b ha hb
  · intro _ _; rw [thr_nil]; exact List.Pairwise.nil
  · intro x a ih h1 h2
    rw [inc_cons] at h1
    rw [thr_l, List.pairwise_cons]
    exact ⟨fun t ht => by
      have := ((thr_mem a [] h1.2 h2 t).1 ht).1
      rcases this with h | h
      · exact h1.1 _ h
      · simp at h, ih h1.2 h2⟩
  · intro y b ih h1 h2
    rw [inc_cons] at h2
    rw [thr_r, List.pairwise_cons]
    exact ⟨fun t ht => by
      have := ((thr_mem [] b h1 h2.2 t).1 ht).1
      rcases this with h | h
      · simp at h
      · exact h2.1 _ h, ih h1 h2.2⟩
  · intro x y a b hxy ih h1 h2
    have h2' := h2
    rw [inc_cons] at h1 h2'
    rw [thr_lt hxy, List.pairwise_cons]
    refine ⟨fun t ht => ?_, ih h1.2 h2⟩
    rcases ((thr_mem a (y :: b) h1.2 h2 t).1 ht).1 with h | h
    · exact h1.1 _ h
    · rcases List.mem_cons.1 h with h | h
      · show x < t.1; rw [h]; exact hxy
      · have := h2'.1 _ h; show x < t.1; omega
  · intro x y a b hxy ih h1 h2
    have h1' := h1
    rw [inc_cons] at h2 h1'
    rw [thr_gt hxy, List.pairwise_cons]
    refine ⟨fun t ht => ?_, ih h1 h2.2⟩
    rcases ((thr_mem (x :: a) b h1 h2.2 t).1 ht).1 with h | h
    · rcases List.mem_cons.1 h with h | h
      · show y < t.1; rw [h]; exact hxy
      · have := h1'.1 _ h; show y < t.1; omega
    · exact h2.1 _ h
  · intro x a b ih h1 h2
    rw [inc_cons] at h1 h2
    rw [thr_eq, List.pairwise_cons]
    refine ⟨fun t ht => ?_, ih h1.2 h2.2⟩
    rcases ((thr_mem a b h1.2 h2.2 t).1 ht).1 with h | h
    · exact h1.1 _ h
    · exact h2.1 _ h

/-- What of it stays. -/
def those (p : Bool → Bool → Bool) (a b : List Int) : List Int := ((thr a b).filter fun t => p t.2.1 t.2.2).map (·.1)
theorem those_inc (p : Bool → Bool → Bool) {a b : List Int} (ha : Inc a) (hb : Inc b) : Inc (those p a b) := by
  unfold those Inc
  rw [List.pairwise_map]
  exact (thr_inc a b ha hb).filter _
theorem those_mem (p : Bool → Bool → Bool) {a b : List Int} (ha : Inc a) (hb : Inc b) (x : Int) : x ∈ those p a b ↔ (x ∈ a ∨ x ∈ b) ∧ p (decide (x ∈ a)) (decide (x ∈ b)) = true := by
  unfold those
  rw [List.mem_map]
  constructor
  · rintro ⟨t, ht, rfl⟩
    rw [List.mem_filter, thr_mem a b ha hb] at ht
    exact ⟨ht.1.1, by rw [← ht.1.2.1, ← ht.1.2.2]; exact ht.2⟩
  · rintro ⟨h1, h2⟩
    refine ⟨(x, decide (x ∈ a), decide (x ∈ b)), ?_, rfl⟩
    rw [List.mem_filter, thr_mem a b ha hb]
    exact ⟨⟨h1, rfl, rfl⟩, h2⟩
theorem those_len (p : Bool → Bool → Bool) (a b : List Int) : (those p a b).length ≤ a.length + b.length := by
  unfold those
  rw [List.length_map]
  exact Nat.le_trans (List.length_filter_le _ _) (thr_len a b)
def uni (a b : List Int) : List Int := those (fun p q => p || q) a b
def int (a b : List Int) : List Int := those (fun p q => p && q) a b
def dif (a b : List Int) : List Int := those (fun p q => p && !q) a b
theorem uni_mem {a b : List Int} (ha : Inc a) (hb : Inc b) (x : Int) : x ∈ uni a b ↔ x ∈ a ∨ x ∈ b := by
  unfold uni; rw [those_mem _ ha hb]; simp
theorem int_mem {a b : List Int} (ha : Inc a) (hb : Inc b) (x : Int) : x ∈ int a b ↔ x ∈ a ∧ x ∈ b := by
  unfold int; rw [those_mem _ ha hb]; simp; intro h _; exact .inl h
theorem dif_mem {a b : List Int} (ha : Inc a) (hb : Inc b) (x : Int) : x ∈ dif a b ↔ x ∈ a ∧ x ∉ b := by
  unfold dif; rw [those_mem _ ha hb]; simp; intro h _; exact .inl h
theorem uni_inc {a b : List Int} (ha : Inc a) (hb : Inc b) : Inc (uni a b) := those_inc _ ha hb
theorem int_inc {a b : List Int} (ha : Inc a) (hb : Inc b) : Inc (int a b) := those_inc _ ha hb
theorem dif_inc {a b : List Int} (ha : Inc a) (hb : Inc b) : Inc (dif a b) := those_inc _ ha hb
/-- What of two rows is together, is in both and in each one alone, counted. -/
theorem parts_len {a b : List Int} (ha : Inc a) (hb : Inc b) : (int a b).length + (dif a b).length + (dif b a).length = (uni a b).length := by
  have e : dif b a = those (fun p q => q && !p) a b := by
    refine inc_ext (dif_inc hb ha) (those_inc _ ha hb) fun x => ?_
    rw [dif_mem hb ha, those_mem _ ha hb]; simp; intro h _; exact .inr h
  have g : ∀ l : List (Int × Bool × Bool), (∀ t ∈ l, t.2.1 = true ∨ t.2.2 = true) → (l.filter fun t => t.2.1 && t.2.2).length + (l.filter fun t => t.2.1 && !t.2.2).length + (l.filter fun t => t.2.2 && !t.2.1).length = (l.filter fun t => t.2.1 || t.2.2).length := by
    intro l
    induction l with
    | nil => intro _; rfl
    | cons t l ih =>
      intro h
      have := ih fun t ht => h t (List.mem_cons_of_mem _ ht)
      obtain ⟨z, p, q⟩ := t
      have h0 := h (z, p, q) (List.mem_cons_self ..)
      cases p <;> cases q <;> simp at h0 ⊢ <;> omega
  rw [e]
  unfold int dif uni those
  simp only [List.length_map]
  refine g _ fun t ht => ?_
  rw [thr_mem a b ha hb] at ht
  rw [ht.2.1, ht.2.2]
  simpa using ht.1
end Go.Proofs.YtllpmepmgnnoaaaGreat
