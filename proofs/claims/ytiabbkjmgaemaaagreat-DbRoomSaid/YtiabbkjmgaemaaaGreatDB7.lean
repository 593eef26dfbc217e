/- What a router knows of a group: sources that are kept, and how long; what records and ticks make of it (plain). -/
import Derived.Test.YtiabbkjmgaemaaaGreatDB0
import Derived.Test.YtiabbkjmgaemaaaGreatDB1
import Derived.Test.YtiabbkjmgaemaaaGreatDB2
import Derived.Test.YtiabbkjmgaemaaaGreatDB3
import Derived.Test.YtiabbkjmgaemaaaGreatDB4
import Derived.Test.YtiabbkjmgaemaaaGreatDB5
import Derived.Test.YtiabbkjmgaemaaaGreatDB6
import Derived.Test.YtiabbkjmgaemaaaGreatShelf
import Derived.BigQuiet
import Derived.Laws.Externs
import Derived.Shelf.GgSortFunc.Tiny
import Derived.Shelf.SlSortFuncK.WholeK
namespace Go.Proofs.YtiabbkjmgaemaaaGreat
set_option linter.unusedVariables false

/-- A source, and how long it is kept. -/
abbrev Hd := Int × Int
def ad (s : List Hd) : List Int := s.map Prod.fst
def lf : List Hd → Int → Int
  | [], _ => -1
  | x :: r, a => if x.1 = a then x.2 else lf r a
def NN (s : List Hd) : Prop := ∀ x ∈ s, 0 ≤ x.2
def kof (xs : List Int) (f : Int → Int) : List Hd := xs.map fun a => (a, f a)
theorem ad_mem {s : List Hd} {a : Int} : a ∈ ad s ↔ ∃ t, (a, t) ∈ s := by
  unfold ad
  rw [List.mem_map]
  constructor
  · rintro ⟨⟨x, t⟩, h, rfl⟩
    exact ⟨t, h⟩
  · rintro ⟨t, h⟩
    exact ⟨_, h, rfl⟩
theorem lf_none : ∀ {s : List Hd} {a : Int}, a ∉ ad s → lf s a = -1
  | [], _, _ => rfl
  | x :: r, a, h => by
    unfold ad at h
    rw [List.map_cons, List.mem_cons, not_or] at h
    unfold lf
    rw [if_neg (fun e => h.1 e.symm)]
    exact lf_none (s := r) h.2
theorem lf_in : ∀ {s : List Hd} {a : Int}, a ∈ ad s → (a, lf s a) ∈ s
  | [], a, h => by cases h
  | x :: r, a, h => by
    unfold lf
    by_cases e : x.1 = a
    · rw [if_pos e]
      obtain ⟨x1, x2⟩ := x
      simp only at e
      subst e
      exact List.mem_cons_self
    · rw [if_neg e]
      unfold ad at h
      rw [List.map_cons, List.mem_cons] at h
      rcases h with h | h
      · exact absurd h.symm e
      · exact List.mem_cons_of_mem _ (lf_in (s := r) h)
theorem lf_of : ∀ {s : List Hd} {a t : Int}, Inc (ad s) → (a, t) ∈ s → lf s a = t
  | x :: r, a, t, h, hm => by
    unfold ad at h
    rw [List.map_cons, inc_cons] at h
    unfold lf
    rcases List.mem_cons.1 hm with e | e
    · subst e
      rw [if_pos rfl]
    · have := h.1 a (List.mem_map.2 ⟨_, e, rfl⟩)
      rw [if_neg (by omega)]
      exact lf_of (s := r) h.2 e
theorem lf_ge {s : List Hd} (h : NN s) {a : Int} : 0 ≤ lf s a ↔ a ∈ ad s := by
  constructor
  · intro h0
    refine Classical.byContradiction fun hn => ?_
    rw [lf_none hn] at h0
    omega
  · intro hm
    exact h _ (lf_in hm)
theorem lf_low {s : List Hd} (h : NN s) (a : Int) : -1 ≤ lf s a := by
  by_cases hm : a ∈ ad s
  · have := (lf_ge h).2 hm; omega
  · rw [lf_none hm]; omega
theorem lf_neg {s : List Hd} (h : NN s) {a : Int} : lf s a = -1 ↔ a ∉ ad s := by
  rw [← lf_ge h]
  have := lf_low h a
  omega
theorem ad_kof (xs : List Int) (f : Int → Int) : ad (kof xs f) = xs := by
  unfold ad kof
  rw [List.map_map]
  exact List.map_id' xs
theorem lf_kof {xs : List Int} {f : Int → Int} {a : Int} : lf (kof xs f) a = if a ∈ xs then f a else -1 := by
  induction xs with
  | nil => rfl
  | cons x r ih =>
    unfold kof at ih ⊢
    rw [List.map_cons]
    unfold lf
    simp only
    by_cases e : x = a
    · subst e
      rw [if_pos rfl, if_pos List.mem_cons_self]
    · rw [if_neg e, ih]
      have : a ∈ x :: r ↔ a ∈ r := by
        rw [List.mem_cons]
        exact ⟨fun h => h.resolve_left (fun h => e h.symm), .inr⟩
      simp only [this]
theorem kof_lf : ∀ {s : List Hd}, Inc (ad s) → s = kof (ad s) (lf s) := by
  intro s h
  unfold kof ad
  rw [List.map_map]
  symm
  calc s.map ((fun a => (a, lf s a)) ∘ Prod.fst) = s.map id := List.map_congr_left fun x hx => by
        obtain ⟨a, t⟩ := x
        simp only [Function.comp, id]
        rw [lf_of h hx]
    _ = s := List.map_id s
theorem kof_congr {xs : List Int} {f g : Int → Int} (h : ∀ a ∈ xs, f a = g a) : kof xs f = kof xs g :=
  List.map_congr_left fun a ha => by rw [h a ha]
theorem s_ext {s t : List Hd} (h1 : Inc (ad s)) (h2 : Inc (ad t)) (n1 : NN s) (n2 : NN t) (h : ∀ a, lf s a = lf t a) : s = t := by
  have e : ad s = ad t := inc_ext h1 h2 fun a => by rw [← lf_ge n1, ← lf_ge n2, h]
  rw [kof_lf h1, kof_lf h2, e]
  exact kof_congr fun a _ => h a
theorem nn_kof {xs : List Int} {f : Int → Int} (h : ∀ a ∈ xs, 0 ≤ f a) : NN (kof xs f) := by
  intro x hx
  obtain ⟨a, ha, rfl⟩ := List.mem_map.1 hx
  exact h a ha
theorem ad_filter_inc {s : List Hd} (p : Hd → Bool) (h : Inc (ad s)) : Inc (ad (s.filter p)) := List.Pairwise.sublist (List.filter_sublist.map _) h
theorem nn_filter {s : List Hd} (p : Hd → Bool) (h : NN s) : NN (s.filter p) := fun x hx => h x (List.mem_filter.1 hx).1
theorem lf_filter {s : List Hd} (p : Hd → Bool) (h : Inc (ad s)) (n : NN s) (a : Int) : lf (s.filter p) a = if 0 ≤ lf s a ∧ p (a, lf s a) = true then lf s a else -1 := by
  by_cases hc : 0 ≤ lf s a ∧ p (a, lf s a) = true
  · rw [if_pos hc]
    exact lf_of (ad_filter_inc p h) (List.mem_filter.2 ⟨lf_in ((lf_ge n).1 hc.1), hc.2⟩)
  · rw [if_neg hc]
    refine lf_none fun hm => hc ?_
    obtain ⟨t, ht⟩ := ad_mem.1 hm
    obtain ⟨h1, h2⟩ := List.mem_filter.1 ht
    have e := lf_of h h1
    exact ⟨by rw [e]; exact n _ h1, by rw [e]; exact h2⟩
theorem filter_mem {s : List Hd} (p : Hd → Bool) (h : Inc (ad s)) (n : NN s) (a : Int) : a ∈ ad (s.filter p) ↔ 0 ≤ lf s a ∧ p (a, lf s a) = true := by
  rw [← lf_ge (nn_filter p n), lf_filter p h n]
  split
  · rename_i hc; exact ⟨fun _ => hc, fun _ => hc.1⟩
  · rename_i hc; exact ⟨fun h0 => absurd h0 (by omega), fun h0 => absurd h0 hc⟩
theorem ad_len (s : List Hd) : (ad s).length = s.length := List.length_map _
theorem inc_nodup {l : List Int} (h : Inc l) : l.Nodup := List.Pairwise.imp (fun h => by omega) h

/-- A set is kept for a time. -/
def keepS (s : List Hd) (l : List Int) (T : Int) : List Hd := kof (uni (ad s) l) fun a => if a ∈ l then T else lf s a
theorem keepS_ad {s : List Hd} {l : List Int} (T : Int) : ad (keepS s l T) = uni (ad s) l := ad_kof _ _
theorem keepS_inc {s : List Hd} {l : List Int} (T : Int) (h : Inc (ad s)) (hl : Inc l) : Inc (ad (keepS s l T)) := by rw [keepS_ad]; exact uni_inc h hl
theorem keepS_nn {s : List Hd} {l : List Int} {T : Int} (hT : 0 ≤ T) (h : Inc (ad s)) (hl : Inc l) (n : NN s) : NN (keepS s l T) := by
  refine nn_kof fun a ha => ?_
  split
  · exact hT
  · rename_i hn
    rw [uni_mem h hl] at ha
    exact (lf_ge n).2 (ha.resolve_right hn)
theorem keepS_lf {s : List Hd} {l : List Int} {T : Int} (h : Inc (ad s)) (hl : Inc l) (n : NN s) (a : Int) : lf (keepS s l T) a = if a ∈ l then T else lf s a := by
  unfold keepS
  rw [lf_kof]
  by_cases hm : a ∈ l
  · rw [if_pos ((uni_mem h hl a).2 (.inr hm)), if_pos hm]
  · rw [if_neg hm]
    by_cases hs : a ∈ ad s
    · rw [if_pos ((uni_mem h hl a).2 (.inl hs))]
    · rw [if_neg (fun hx => ((uni_mem h hl a).1 hx).elim hs hm), lf_none hs]
/-- The row that is sorted ahead of that. -/
def keepR (s : List Hd) (l : List Int) (T : Int) : List Hd := s.filter (fun x => !decide (x.1 ∈ l)) ++ l.map fun a => (a, T)
theorem keepR_nodup {s : List Hd} {l : List Int} (T : Int) (h : Inc (ad s)) (hl : Inc l) : (ad (keepR s l T)).Nodup := by
  unfold keepR ad
  rw [List.map_append, List.map_map]
  have e : l.map (Prod.fst ∘ fun a => (a, T)) = l := List.map_id' l
  rw [e]
  refine List.nodup_append.2 ⟨inc_nodup (ad_filter_inc _ h), inc_nodup hl, ?_⟩
  intro a ha b hb e
  subst e
  obtain ⟨x, hx, rfl⟩ := List.mem_map.1 ha
  have := (List.mem_filter.1 hx).2
  simp only [Bool.not_eq_true', decide_eq_false_iff_not] at this
  exact this hb
theorem keepR_mem {s : List Hd} {l : List Int} {T a t : Int} : (a, t) ∈ keepR s l T ↔ ((a, t) ∈ s ∧ a ∉ l) ∨ (a ∈ l ∧ t = T) := by
  unfold keepR
  rw [List.mem_append, List.mem_filter, List.mem_map]
  simp only [Bool.not_eq_true', decide_eq_false_iff_not, Prod.mk.injEq]
  constructor
  · rintro (h | ⟨x, h1, rfl, rfl⟩)
    · exact .inl h
    · exact .inr ⟨h1, rfl⟩
  · rintro (h | ⟨h1, rfl⟩)
    · exact .inl h
    · exact .inr ⟨a, h1, rfl, rfl⟩
theorem keep_sorted {s d : List Hd} {l : List Int} {T : Int} (h : Inc (ad s)) (hl : Inc l) (hp : d.Perm (keepR s l T)) (hso : Inc (ad d)) : d = keepS s l T := by
  have hmem : ∀ a t, (a, t) ∈ d ↔ ((a, t) ∈ s ∧ a ∉ l) ∨ (a ∈ l ∧ t = T) := fun a t => by rw [hp.mem_iff, keepR_mem]
  have e : ad d = uni (ad s) l := inc_ext hso (uni_inc h hl) fun a => by
    rw [uni_mem h hl, ad_mem, ad_mem]
    constructor
    · rintro ⟨t, ht⟩
      rcases (hmem a t).1 ht with h1 | h1
      · exact .inl ⟨t, h1.1⟩
      · exact .inr h1.1
    · intro h1
      by_cases hm : a ∈ l
      · exact ⟨T, (hmem a T).2 (.inr ⟨hm, rfl⟩)⟩
      · obtain ⟨t, ht⟩ := h1.resolve_right hm
        exact ⟨t, (hmem a t).2 (.inl ⟨ht, hm⟩)⟩
  rw [kof_lf hso, e]
  unfold keepS
  refine kof_congr fun a ha => ?_
  by_cases hm : a ∈ l
  · rw [if_pos hm]
    exact lf_of hso ((hmem a T).2 (.inr ⟨hm, rfl⟩))
  · rw [if_neg hm]
    have hs : a ∈ ad s := ((uni_mem h hl a).1 ha).resolve_right hm
    exact lf_of hso ((hmem a _).2 (.inl ⟨lf_in hs, hm⟩))
theorem sorted_inc {d : List Hd} (hn : (ad d).Nodup) (hs : ∀ i j (hi : i < d.length) (hj : j < d.length), i < j → ¬ d[j].1 < d[i].1) : Inc (ad d) := by
  refine List.pairwise_iff_getElem.2 fun i j hi hj hij => ?_
  have h1 : i < d.length := by rwa [ad_len] at hi
  have h2 : j < d.length := by rwa [ad_len] at hj
  have h3 := hs i j h1 h2 hij
  have h4 := (List.pairwise_iff_getElem.1 hn) i j hi hj hij
  have e1 : (ad d)[i] = d[i].1 := by simp [ad]
  have e2 : (ad d)[j] = d[j].1 := by simp [ad]
  rw [e1, e2] at h4 ⊢
  omega
theorem keepS_len (s : List Hd) (l : List Int) (T : Int) : (keepS s l T).length ≤ s.length + l.length := by
  rw [← ad_len, keepS_ad]
  have := those_len (fun p q => p || q) (ad s) l
  rw [ad_len] at this
  exact this
end Go.Proofs.YtiabbkjmgaemaaaGreat
/- Rows of sources that are kept: in memory, and of a call's own; which of them stay. -/
namespace Go.Proofs.YtiabbkjmgaemaaaGreat
set_option linter.unusedVariables false
open Go.RowKit

def InS (s : List Hd) : Prop := ∀ x ∈ s, (0 ≤ x.1 ∧ x.1 ≤ 4294967295) ∧ -9223372036854775808 ≤ x.2 ∧ x.2 ≤ 9223372036854775807
def HAt (w : World) (b o : Nat) (x : Hd) : Prop := w.cell? ⟨b, o, none⟩ = some (.int .u32 x.1) ∧ w.cell? ⟨b, o + 1, none⟩ = some (.int .i64 x.2)
theorem HAt.below {w w' : World} {b o : Nat} {x : Hd} (h : HAt w b o x) (hb : Below w.heap.size w w') : HAt w' b o x := ⟨(hb.cell (cell_lt h.1)).trans h.1, (hb.cell (cell_lt h.2)).trans h.2⟩
/-- A slice of sources that are kept. -/
def Hs (w : World) (a : Option Addr) (s : List Hd) : Prop := (s = [] ∨ ∃ b off, a = some ⟨b, off, none⟩ ∧ ∀ (k : Nat) x, s[k]? = some x → HAt w b (off + k * 2) x) ∧ InS s
theorem Hs.below {w w' : World} {a : Option Addr} {s : List Hd} (h : Hs w a s) (hb : Below w.heap.size w w') : Hs w' a s := by
  refine ⟨?_, h.2⟩
  rcases h.1 with h1 | ⟨b, off, e, hc⟩
  · exact .inl h1
  · exact .inr ⟨b, off, e, fun k x hk => (hc k x hk).below hb⟩
theorem Hs.at {w : World} {a : Option Addr} {s : List Hd} (h : Hs w a s) {k : Nat} (hk : k < s.length) : ∃ b off, a = some ⟨b, off, none⟩ ∧ ∀ (k : Nat) x, s[k]? = some x → HAt w b (off + k * 2) x := by
  rcases h.1 with rfl | h1
  · exact absurd hk (by simp)
  · exact h1
theorem Hs.nil (w : World) (a : Option Addr) : Hs w a [] := ⟨.inl rfl, fun x h => absurd h (by simp)⟩
theorem ins_ad {s : List Hd} (h : InS s) : ∀ x ∈ ad s, 0 ≤ x ∧ x ≤ 4294967295 := by
  intro x hx
  obtain ⟨y, hy, rfl⟩ := List.mem_map.1 hx
  exact (h y hy).1
theorem ins_filter {s : List Hd} (p : Hd → Bool) (h : InS s) : InS (s.filter p) := fun x hx => h x (List.mem_filter.1 hx).1
def hcs (x : Hd) : List Value := [.int .u32 x.1, .int .i64 x.2]
def hv (s : List Hd) : List Value := s.flatMap hcs
theorem hv_append (a b : List Hd) : hv (a ++ b) = hv a ++ hv b := by simp [hv]
theorem hv_one' (x : Hd) : hv [x] = hcs x := by simp [hv]
theorem hv_len (s : List Hd) : (hv s).length = s.length * 2 := by
  induction s with
  | nil => rfl
  | cons x r ih => simp only [hv, List.flatMap_cons, List.length_append, List.length_cons] at *; rw [ih]; simp [hcs]; omega
theorem hv_at (s : List Hd) : ∀ (k : Nat) (x : Hd), s[k]? = some x → ∀ j, j < 2 → (hv s)[k * 2 + j]? = (hcs x)[j]? := by
  induction s with
  | nil => intro k s h; simp at h
  | cons t r ih =>
    intro k x h j hj
    have e : hv (t :: r) = hcs t ++ hv r := by simp [hv]
    rw [e]
    cases k with
    | zero =>
      simp at h; subst h
      rw [List.getElem?_append_left (by simp [hcs]; omega)]
      simp
    | succ k =>
      have h' : r[k]? = some x := by simpa using h
      rw [List.getElem?_append_right (by simp [hcs]; omega)]
      rw [show (k + 1) * 2 + j - (hcs t).length = k * 2 + j by simp [hcs]; omega]
      exact ih k x h' j hj
theorem hcs_one (x : Hd) : ∀ u ∈ hcs x, u.oneCell' = true := by
  intro u hu
  simp only [hcs, List.mem_cons, List.not_mem_nil, or_false] at hu
  rcases hu with rfl | rfl <;> rfl
theorem hv_one (s : List Hd) : ∀ u ∈ hv s, u.oneCell' = true := by
  intro u hu
  obtain ⟨x, _, h⟩ := List.mem_flatMap.1 hu
  exact hcs_one x u h
theorem Hs.cell {w : World} {b off : Nat} {s : List Hd} (h : Hs w (some ⟨b, off, none⟩) s) : ∀ j u, (hv s)[j]? = some u → w.cell? ⟨b, off + j, none⟩ = some u := by
  intro j u hu
  have hj : j < s.length * 2 := by rw [← hv_len]; exact (List.getElem?_eq_some_iff.1 hu).1
  obtain ⟨b', off', e, hc⟩ := h.at (k := j / 2) (by omega)
  cases e
  obtain ⟨x, hs⟩ : ∃ x, s[j / 2]? = some x := ⟨_, List.getElem?_eq_getElem (by omega)⟩
  obtain ⟨c0, c1⟩ := hc _ x hs
  have h1 := hv_at s (j / 2) x hs (j % 2) (by omega)
  rw [show j / 2 * 2 + j % 2 = j by omega, hu] at h1
  have h2 : j % 2 = 0 ∨ j % 2 = 1 := by omega
  rcases h2 with h2 | h2
  · rw [h2] at h1; simp [hcs] at h1; rw [h1, show off + j = off + j / 2 * 2 by omega]; exact c0
  · rw [h2] at h1; simp [hcs] at h1; rw [h1, show off + j = off + j / 2 * 2 + 1 by omega]; exact c1
/-- What a row of the call's own holds. -/
theorem kown_at {w : World} {B n size : Nat} {e : TypeId} {a : Option Addr} {c : Nat} {xs : List Value} (h : w.ownsRow B e size (.slice a n c) n xs) (hn : 0 < n) : ∃ g, a = some ⟨g, 0, none⟩ ∧ B ≤ g ∧ n ≤ c ∧ ∀ j u, xs[j]? = some u → w.cell? ⟨g, j, none⟩ = some u := by
  obtain ⟨hl, h⟩ := h
  rcases h with ⟨_, e⟩ | ⟨g, cap, cur, e, hB, hg, hnc, _, hsz, htk⟩
  · omega
  · simp at e
    obtain ⟨rfl, rfl⟩ := e
    refine ⟨g, rfl, hB, hnc, fun j u hu => ?_⟩
    have hj : j < n * size := by have := (List.getElem?_eq_some_iff.1 hu).1; omega
    rw [← htk, List.getElem?_take_of_lt hj] at hu
    simp [World.cell?, hg]
    simpa using hu
theorem own_hs {w : World} {B n : Nat} {a : Option Addr} {c : Nat} {s : List Hd} (h : w.ownsRow B 86 2 (.slice a n c) n (hv s)) (hn : s.length = n) (hf : InS s) : Hs w a s := by
  refine ⟨?_, hf⟩
  by_cases h0 : n = 0
  · exact .inl (List.eq_nil_of_length_eq_zero (by omega))
  obtain ⟨g, rfl, _, _, hc⟩ := kown_at h (by omega)
  refine .inr ⟨g, 0, rfl, fun k x hk => ⟨?_, ?_⟩⟩
  · exact hc (0 + k * 2) _ (by rw [Nat.zero_add]; exact hv_at s k x hk 0 (by omega))
  · exact hc (0 + k * 2 + 1) _ (by rw [Nat.zero_add]; exact hv_at s k x hk 1 (by omega))
/-- Sources elsewhere stay. -/
theorem Hs.other {w w' : World} {X : Nat} {a : Option Addr} {s : List Hd} (h : Hs w a s) (hn : ∀ o x y, w.cell? ⟨X, o, none⟩ = some (.int .u32 x) → w.cell? ⟨X, o + 1, none⟩ ≠ some (.int .i64 y)) (hb : But1 X w w') : Hs w' a s := by
  refine ⟨?_, h.2⟩
  rcases h.1 with h1 | ⟨b, off, e, hc⟩
  · exact .inl h1
  · refine .inr ⟨b, off, e, fun k x hk => ?_⟩
    obtain ⟨h0, h1⟩ := hc k x hk
    have hne : b ≠ X := fun e => by subst e; exact hn _ _ _ h0 h1
    exact ⟨(hb.cell (cell_lt h0) hne).trans h0, (hb.cell (cell_lt h1) hne).trans h1⟩
/-- .. and their row is one of sources. -/
def HT (w : World) (a : Option Addr) (s : List Hd) : Prop := Hs w a s ∧ (s = [] ∨ ∃ b off cs p, a = some ⟨b, off, none⟩ ∧ w.heap[b]? = some (.cells cs 86 p))
theorem HT.below {w w' : World} {a : Option Addr} {s : List Hd} (h : HT w a s) (hb : Below w.heap.size w w') : HT w' a s := by
  refine ⟨h.1.below hb, ?_⟩
  rcases h.2 with h1 | ⟨b, off, cs, p, e, h1⟩
  · exact .inl h1
  · exact .inr ⟨b, off, cs, p, e, (hb.block _ (Array.getElem?_eq_some_iff.1 h1).1).trans h1⟩
theorem HT.other {w w' : World} {X : Nat} {a : Option Addr} {s : List Hd} (h : HT w a s) (hn : ∀ o x y, w.cell? ⟨X, o, none⟩ = some (.int .u32 x) → w.cell? ⟨X, o + 1, none⟩ ≠ some (.int .i64 y)) (hb : But1 X w w') : HT w' a s := by
  refine ⟨h.1.other hn hb, ?_⟩
  rcases h.2 with h1 | ⟨b, off, cs, p, e, h1⟩
  · exact .inl h1
  · by_cases h0 : s = []
    · exact .inl h0
    · refine .inr ⟨b, off, cs, p, e, (hb.block _ (Array.getElem?_eq_some_iff.1 h1).1 ?_).trans h1⟩
      obtain ⟨b', off', e', hc⟩ := h.1.at (List.length_pos_iff.2 h0)
      rw [e] at e'
      cases e'
      obtain ⟨q0, q1⟩ := hc 0 _ (List.getElem?_eq_getElem (List.length_pos_iff.2 h0))
      intro e2
      subst e2
      exact hn _ _ _ q0 q1
theorem HT.grown {w w' : World} {a : Option Addr} {s : List Hd} (h : HT w a s) {B size n : Nat} {e : TypeId} {v : Value} {xs : List Value} (ho : w.ownsRow B e size v n xs) (hne : 86 ≠ e) (hg : w.grownBy w' v.ownBlock) : HT w' a s := by
  have key : ∀ b off cs p, a = some ⟨b, off, none⟩ → w.heap[b]? = some (.cells cs 86 p) → w'.heap[b]? = w.heap[b]? := by
    intro b off cs p _ h1
    refine hg.block b (Array.getElem?_eq_some_iff.1 h1).1 fun e2 => ?_
    rcases ho.2 with ⟨rfl, _⟩ | ⟨g2, cap2, cur2, rfl, _, hb2, _⟩
    · simp [Value.ownBlock] at e2
    · obtain rfl : g2 = b := by simpa [Value.ownBlock, eq_comm] using e2
      rw [h1] at hb2
      simp only [Option.some.injEq, Obj.cells.injEq] at hb2
      exact hne hb2.2.1
  rcases h.2 with h1 | ⟨b, off, cs, p, e1, h1⟩
  · exact ⟨⟨.inl h1, h.1.2⟩, .inl h1⟩
  · have hk := key b off cs p e1 h1
    refine ⟨⟨?_, h.1.2⟩, .inr ⟨b, off, cs, p, e1, hk.trans h1⟩⟩
    rcases h.1.1 with h2 | ⟨b', off', e', hc⟩
    · exact .inl h2
    · rw [e1] at e'
      cases e'
      exact .inr ⟨b, off, e1, fun k x hx => ⟨(World.cell?_of_block (w := w) hk).trans (hc k x hx).1, (World.cell?_of_block (w := w) hk).trans (hc k x hx).2⟩⟩
theorem own_ht {w : World} {B n : Nat} {a : Option Addr} {c : Nat} {s : List Hd} (h : w.ownsRow B 86 2 (.slice a n c) n (hv s)) (hn : s.length = n) (hf : InS s) : HT w a s := by
  refine ⟨own_hs h hn hf, ?_⟩
  rcases h.2 with ⟨_, e⟩ | ⟨g, cap, cur, e, _, hg, _⟩
  · exact .inl (List.eq_nil_of_length_eq_zero (by omega))
  · simp at e
    exact .inr ⟨g, 0, cur, _, e.1, hg⟩
/-- A row of sources of the call's own that is handed back. -/
def OutK (w : World) (e : Ending) (w' : World) (s : List Hd) : Prop := (∃ a c, e = .returned (.slice a s.length c) ∧ w'.ownsRow w.heap.size 86 2 (.slice a s.length c) s.length (hv s)) ∧ Below w.heap.size w w'
theorem infoHd : (Tryz.prog.info? 86).map (fun i => (i.zero, i.size, i.bytes)) = some (some (.agg #[.int .u32 0, .int .i64 0]), 2, 16) := by kernel_rfl
theorem held_new (w : World) (v0 v1 : Value) : (w.alloc (.cells #[v0, v1] 86)).cell? ⟨w.heap.size, 0, none⟩ = some v0 ∧ (w.alloc (.cells #[v0, v1] 86)).cell? ⟨w.heap.size, 1, none⟩ = some v1 := by
  have hN := Go.Deep.blk_alloc_new w (.cells #[v0, v1] 86)
  exact ⟨by simp only [World.cell?, hN]; rfl, by simp only [World.cell?, hN]; rfl⟩
theorem takeH {α : Type} {l : List α} {k : Nat} {x : α} (h : l[k]? = some x) : l.take (k + 1) = l.take k ++ [x] := by
  rw [List.take_add_one, h]; rfl
theorem filt_yes {s : List Hd} {p : Hd → Bool} {k : Nat} {x : Hd} (h : s[k]? = some x) (hp : p x = true) : (s.take (k + 1)).filter p = (s.take k).filter p ++ [x] := by
  rw [takeH h, List.filter_append]; simp [hp]
theorem filt_no {s : List Hd} {p : Hd → Bool} {k : Nat} {x : Hd} (h : s[k]? = some x) (hp : p x = false) : (s.take (k + 1)).filter p = (s.take k).filter p := by
  rw [takeH h, List.filter_append]; simp [hp]
theorem filt_len (s : List Hd) (p : Hd → Bool) (k : Nat) : ((s.take k).filter p).length ≤ s.length :=
  Nat.le_trans (List.length_filter_le _ _) (List.length_take_le' _ _)
theorem as_new' (w : World) (xs : List Int) (h : IsA xs) : As (w.alloc (.cells (va xs).toArray 25)) (some ⟨w.heap.size, 0, none⟩) xs := by
  refine ⟨.inr ⟨_, _, rfl, fun k hk => ?_⟩, h⟩
  rw [Nat.zero_add, cell_new]
  simp [va, List.getD_eq_getElem?_getD, hk]
set_option maxRecDepth 100000 in
set_option maxHeartbeats 4000000 in
/-- Which sources stay, as (stolon/memb.hearing).keep$1 tells. -/
theorem mThoseK (v1 : Value) (p : Hd → Bool) (a : Option Addr) (n c : Nat) (s : List Hd) (w : World) (hx : s.length = n) (hn : n ≤ 100000) (hH : Hs w a s)
    (hcall : ∀ (w1 : World) (x : Hd), Below w.heap.size w w1 → x ∈ s → Calls Tryz.prog 127 #[.agg #[.int .u32 x.1, .int .i64 x.2], v1] w1 fun e w' => e = .returned (.bool (p x)) ∧ Below w1.heap.size w1 w') :
    Calls Tryz.prog 107 #[.slice a n c, .func (.func 127) #[] #[v1]] w fun e w' => OutK w e w' (s.filter p) := by
  obtain ⟨i0, hi, hz0, hz1, hz2⟩ := info_parts infoHd
  have HX := Lib.hid hx
  have HH := Lib.hid hH
  have HC := Lib.hid hcall
  clear hx hH hcall
  go_enter Tryz.func107, Tryz.ntmps107
  go_wp2
  go_loopw [5, 10] (fun v5 v10 wr => ∃ (k : Nat) (a5 : Option Addr) (c5 : Nat), v5 = .slice a5 ((s.take k).filter p).length c5 ∧ v10 = .int .i64 (k : Int) ∧ k ≤ n ∧ wr.ownsRow w.heap.size 86 2 (.slice a5 ((s.take k).filter p).length c5) ((s.take k).filter p).length (hv ((s.take k).filter p)) ∧
    Below w.heap.size w wr) (fun _ v _ => n - (intOf v).toNat)
  case atStart => exact ⟨0, none, 0, by simp, rfl, by omega, by simpa [hv] using World.ownsRow_nil _ _ _ _, Below.refl _ _⟩
  case round =>
    obtain ⟨k, a5, c5, rfl, rfl, hk, ho, hB⟩ := hrel
    have HO := Lib.hid ho
    have HB := Lib.hid hB
    have hol : ((s.take k).filter p).length ≤ 100000 := Nat.le_trans (filt_len s p k) (by rw [HX.out]; exact hn)
    clear ho hB
    by_cases hlt : k < n
    · obtain ⟨b, off, rfl, hc⟩ := HH.out.at (k := k) (by rw [HX.out]; exact hlt)
      obtain ⟨⟨x1, x2⟩, hfk⟩ : ∃ x, s[k]? = some x := ⟨_, List.getElem?_eq_getElem (by rw [HX.out]; exact hlt)⟩
      obtain ⟨d0, d1⟩ := (hc k _ hfk).below HB.out
      simp only at d0 d1
      have HFK := Lib.hid hfk
      have hkz : (k : Int) < (n : Int) := by omega
      clear hc hfk
      go_wp2_with fail
      have hb1 := bel1 wr (.cells #[.int .u32 x1, .int .i64 x2] 86)
      have HO1 := Lib.hid (HO.out.alloc (.cells #[.int .u32 x1, .int .i64 x2] 86))
      obtain ⟨e0, e1⟩ := held_new wr (.int .u32 x1) (.int .i64 x2)
      have HB1 := Lib.hid (HB.out.trans (hb1.mono HB.out.size))
      clear hb1 HB HO d0 d1
      generalize wr.alloc (.cells #[.int .u32 x1, .int .i64 x2] 86) = w3 at *
      refine (HC.out w3 (x1, x2) HB1.out (List.mem_of_getElem? HFK.out)).mono ?_
      rintro e w4 ⟨rfl, hb4⟩
      replace e0 := (hb4.cell (cell_lt e0)).trans e0
      replace e1 := (hb4.cell (cell_lt e1)).trans e1
      have HO4 := Lib.hid (own_grown HO1.out hb4 (Nat.le_refl _))
      have HB4 := Lib.hid (HB1.out.trans (hb4.mono HB1.out.size))
      clear hb4 HO1 HB1
      obtain ⟨bs, hbs⟩ : ∃ bs, p (x1, x2) = bs := ⟨_, rfl⟩
      rw [hbs]
      have HBS := Lib.hid hbs
      clear hbs
      cases bs
      · go_wp2_with fail
        go_roundw
        case rel =>
          have e := filt_no HFK.out HBS.out
          exact ⟨k + 1, a5, c5, by rw [e], by go_num, by omega, by rw [e]; exact HO4.out, HB4.out⟩
        case measure => simp [intOf]; omega
      · have hn1 := news_new w4 [.int .u32 x1, .int .i64 x2] 86
        have HN1 := Lib.hid hn1
        clear hn1
        go_wp2_with ((refine wpList_app_cell rfl 26 86 i0 _ 2 16 Tryz.underlying26 hi hz0 hz1 hz2 rfl (by decide) (by omega) (.tmp 17) (.tmp 19) rfl w.heap.size _ ((s.take k).filter p).length (hv ((s.take k).filter p)) rfl (HO4.out.alloc _) ⟨w4.heap.size, 0, none⟩ 1 [.int .u32 x1, .int .i64 x2] rfl rfl HN1.out (by simp [Value.oneCell']) (by omega) (by have := HB4.out.size; simp; omega) ?_; intro a' cap' w' hown hg))
        go_roundw
        case rel =>
          have e := filt_yes HFK.out HBS.out
          refine ⟨k + 1, a', cap', by rw [e, List.length_append]; rfl, by go_num, by omega, ?_, HB4.out.trans (((Below.refl _ w4).alloc HB4.out.size _).trans (grown_below (HO4.out.alloc _) hg.out (by have := HB4.out.size; simp; omega)))⟩
          rw [e, List.length_append, hv_append, hv_one']; exact hown.out
        case measure => simp [intOf]; omega
    · obtain rfl : k = n := by omega
      have htk : s.take k = s := List.take_of_length_le (by rw [HX.out]; exact Nat.le_refl _)
      have HO' := HO.out
      rw [htk] at HO' ⊢
      have HO2 := Lib.hid HO'
      clear HO HO' htk
      go_wp2_with fail
      go_ret
      exact ⟨⟨a5, c5, rfl, HO2.out⟩, HB.out⟩
set_option maxRecDepth 100000 in
set_option maxHeartbeats 4000000 in
/-- Which sources stay, as (stolon/memb.hearing).exclude$1 tells. -/
theorem mThoseX (v1 : Value) (p : Hd → Bool) (a : Option Addr) (n c : Nat) (s : List Hd) (w : World) (hx : s.length = n) (hn : n ≤ 100000) (hH : Hs w a s)
    (hcall : ∀ (w1 : World) (x : Hd), Below w.heap.size w w1 → x ∈ s → Calls Tryz.prog 132 #[.agg #[.int .u32 x.1, .int .i64 x.2], v1] w1 fun e w' => e = .returned (.bool (p x)) ∧ Below w1.heap.size w1 w') :
    Calls Tryz.prog 107 #[.slice a n c, .func (.func 132) #[] #[v1]] w fun e w' => OutK w e w' (s.filter p) := by
  obtain ⟨i0, hi, hz0, hz1, hz2⟩ := info_parts infoHd
  have HX := Lib.hid hx
  have HH := Lib.hid hH
  have HC := Lib.hid hcall
  clear hx hH hcall
  go_enter Tryz.func107, Tryz.ntmps107
  go_wp2
  go_loopw [5, 10] (fun v5 v10 wr => ∃ (k : Nat) (a5 : Option Addr) (c5 : Nat), v5 = .slice a5 ((s.take k).filter p).length c5 ∧ v10 = .int .i64 (k : Int) ∧ k ≤ n ∧ wr.ownsRow w.heap.size 86 2 (.slice a5 ((s.take k).filter p).length c5) ((s.take k).filter p).length (hv ((s.take k).filter p)) ∧
    Below w.heap.size w wr) (fun _ v _ => n - (intOf v).toNat)
  case atStart => exact ⟨0, none, 0, by simp, rfl, by omega, by simpa [hv] using World.ownsRow_nil _ _ _ _, Below.refl _ _⟩
  case round =>
    obtain ⟨k, a5, c5, rfl, rfl, hk, ho, hB⟩ := hrel
    have HO := Lib.hid ho
    have HB := Lib.hid hB
    have hol : ((s.take k).filter p).length ≤ 100000 := Nat.le_trans (filt_len s p k) (by rw [HX.out]; exact hn)
    clear ho hB
    by_cases hlt : k < n
    · obtain ⟨b, off, rfl, hc⟩ := HH.out.at (k := k) (by rw [HX.out]; exact hlt)
      obtain ⟨⟨x1, x2⟩, hfk⟩ : ∃ x, s[k]? = some x := ⟨_, List.getElem?_eq_getElem (by rw [HX.out]; exact hlt)⟩
      obtain ⟨d0, d1⟩ := (hc k _ hfk).below HB.out
      simp only at d0 d1
      have HFK := Lib.hid hfk
      have hkz : (k : Int) < (n : Int) := by omega
      clear hc hfk
      go_wp2_with fail
      have hb1 := bel1 wr (.cells #[.int .u32 x1, .int .i64 x2] 86)
      have HO1 := Lib.hid (HO.out.alloc (.cells #[.int .u32 x1, .int .i64 x2] 86))
      obtain ⟨e0, e1⟩ := held_new wr (.int .u32 x1) (.int .i64 x2)
      have HB1 := Lib.hid (HB.out.trans (hb1.mono HB.out.size))
      clear hb1 HB HO d0 d1
      generalize wr.alloc (.cells #[.int .u32 x1, .int .i64 x2] 86) = w3 at *
      refine (HC.out w3 (x1, x2) HB1.out (List.mem_of_getElem? HFK.out)).mono ?_
      rintro e w4 ⟨rfl, hb4⟩
      replace e0 := (hb4.cell (cell_lt e0)).trans e0
      replace e1 := (hb4.cell (cell_lt e1)).trans e1
      have HO4 := Lib.hid (own_grown HO1.out hb4 (Nat.le_refl _))
      have HB4 := Lib.hid (HB1.out.trans (hb4.mono HB1.out.size))
      clear hb4 HO1 HB1
      obtain ⟨bs, hbs⟩ : ∃ bs, p (x1, x2) = bs := ⟨_, rfl⟩
      rw [hbs]
      have HBS := Lib.hid hbs
      clear hbs
      cases bs
      · go_wp2_with fail
        go_roundw
        case rel =>
          have e := filt_no HFK.out HBS.out
          exact ⟨k + 1, a5, c5, by rw [e], by go_num, by omega, by rw [e]; exact HO4.out, HB4.out⟩
        case measure => simp [intOf]; omega
      · have hn1 := news_new w4 [.int .u32 x1, .int .i64 x2] 86
        have HN1 := Lib.hid hn1
        clear hn1
        go_wp2_with ((refine wpList_app_cell rfl 26 86 i0 _ 2 16 Tryz.underlying26 hi hz0 hz1 hz2 rfl (by decide) (by omega) (.tmp 17) (.tmp 19) rfl w.heap.size _ ((s.take k).filter p).length (hv ((s.take k).filter p)) rfl (HO4.out.alloc _) ⟨w4.heap.size, 0, none⟩ 1 [.int .u32 x1, .int .i64 x2] rfl rfl HN1.out (by simp [Value.oneCell']) (by omega) (by have := HB4.out.size; simp; omega) ?_; intro a' cap' w' hown hg))
        go_roundw
        case rel =>
          have e := filt_yes HFK.out HBS.out
          refine ⟨k + 1, a', cap', by rw [e, List.length_append]; rfl, by go_num, by omega, ?_, HB4.out.trans (((Below.refl _ w4).alloc HB4.out.size _).trans (grown_below (HO4.out.alloc _) hg.out (by have := HB4.out.size; simp; omega)))⟩
          rw [e, List.length_append, hv_append, hv_one']; exact hown.out
        case measure => simp [intOf]; omega
    · obtain rfl : k = n := by omega
      have htk : s.take k = s := List.take_of_length_le (by rw [HX.out]; exact Nat.le_refl _)
      have HO' := HO.out
      rw [htk] at HO' ⊢
      have HO2 := Lib.hid HO'
      clear HO HO' htk
      go_wp2_with fail
      go_ret
      exact ⟨⟨a5, c5, rfl, HO2.out⟩, HB.out⟩
set_option maxRecDepth 100000 in
set_option maxHeartbeats 4000000 in
/-- Which sources stay, as (stolon/memb.hearing).ask$1 tells. -/
theorem mThoseA (v1 : Value) (p : Hd → Bool) (a : Option Addr) (n c : Nat) (s : List Hd) (w : World) (hx : s.length = n) (hn : n ≤ 100000) (hH : Hs w a s)
    (hcall : ∀ (w1 : World) (x : Hd), Below w.heap.size w w1 → x ∈ s → Calls Tryz.prog 133 #[.agg #[.int .u32 x.1, .int .i64 x.2], v1] w1 fun e w' => e = .returned (.bool (p x)) ∧ Below w1.heap.size w1 w') :
    Calls Tryz.prog 107 #[.slice a n c, .func (.func 133) #[] #[v1]] w fun e w' => OutK w e w' (s.filter p) := by
  obtain ⟨i0, hi, hz0, hz1, hz2⟩ := info_parts infoHd
  have HX := Lib.hid hx
  have HH := Lib.hid hH
  have HC := Lib.hid hcall
  clear hx hH hcall
  go_enter Tryz.func107, Tryz.ntmps107
  go_wp2
  go_loopw [5, 10] (fun v5 v10 wr => ∃ (k : Nat) (a5 : Option Addr) (c5 : Nat), v5 = .slice a5 ((s.take k).filter p).length c5 ∧ v10 = .int .i64 (k : Int) ∧ k ≤ n ∧ wr.ownsRow w.heap.size 86 2 (.slice a5 ((s.take k).filter p).length c5) ((s.take k).filter p).length (hv ((s.take k).filter p)) ∧
    Below w.heap.size w wr) (fun _ v _ => n - (intOf v).toNat)
  case atStart => exact ⟨0, none, 0, by simp, rfl, by omega, by simpa [hv] using World.ownsRow_nil _ _ _ _, Below.refl _ _⟩
  case round =>
    obtain ⟨k, a5, c5, rfl, rfl, hk, ho, hB⟩ := hrel
    have HO := Lib.hid ho
    have HB := Lib.hid hB
    have hol : ((s.take k).filter p).length ≤ 100000 := Nat.le_trans (filt_len s p k) (by rw [HX.out]; exact hn)
    clear ho hB
    by_cases hlt : k < n
    · obtain ⟨b, off, rfl, hc⟩ := HH.out.at (k := k) (by rw [HX.out]; exact hlt)
      obtain ⟨⟨x1, x2⟩, hfk⟩ : ∃ x, s[k]? = some x := ⟨_, List.getElem?_eq_getElem (by rw [HX.out]; exact hlt)⟩
      obtain ⟨d0, d1⟩ := (hc k _ hfk).below HB.out
      simp only at d0 d1
      have HFK := Lib.hid hfk
      have hkz : (k : Int) < (n : Int) := by omega
      clear hc hfk
      go_wp2_with fail
      have hb1 := bel1 wr (.cells #[.int .u32 x1, .int .i64 x2] 86)
      have HO1 := Lib.hid (HO.out.alloc (.cells #[.int .u32 x1, .int .i64 x2] 86))
      obtain ⟨e0, e1⟩ := held_new wr (.int .u32 x1) (.int .i64 x2)
      have HB1 := Lib.hid (HB.out.trans (hb1.mono HB.out.size))
      clear hb1 HB HO d0 d1
      generalize wr.alloc (.cells #[.int .u32 x1, .int .i64 x2] 86) = w3 at *
      refine (HC.out w3 (x1, x2) HB1.out (List.mem_of_getElem? HFK.out)).mono ?_
      rintro e w4 ⟨rfl, hb4⟩
      replace e0 := (hb4.cell (cell_lt e0)).trans e0
      replace e1 := (hb4.cell (cell_lt e1)).trans e1
      have HO4 := Lib.hid (own_grown HO1.out hb4 (Nat.le_refl _))
      have HB4 := Lib.hid (HB1.out.trans (hb4.mono HB1.out.size))
      clear hb4 HO1 HB1
      obtain ⟨bs, hbs⟩ : ∃ bs, p (x1, x2) = bs := ⟨_, rfl⟩
      rw [hbs]
      have HBS := Lib.hid hbs
      clear hbs
      cases bs
      · go_wp2_with fail
        go_roundw
        case rel =>
          have e := filt_no HFK.out HBS.out
          exact ⟨k + 1, a5, c5, by rw [e], by go_num, by omega, by rw [e]; exact HO4.out, HB4.out⟩
        case measure => simp [intOf]; omega
      · have hn1 := news_new w4 [.int .u32 x1, .int .i64 x2] 86
        have HN1 := Lib.hid hn1
        clear hn1
        go_wp2_with ((refine wpList_app_cell rfl 26 86 i0 _ 2 16 Tryz.underlying26 hi hz0 hz1 hz2 rfl (by decide) (by omega) (.tmp 17) (.tmp 19) rfl w.heap.size _ ((s.take k).filter p).length (hv ((s.take k).filter p)) rfl (HO4.out.alloc _) ⟨w4.heap.size, 0, none⟩ 1 [.int .u32 x1, .int .i64 x2] rfl rfl HN1.out (by simp [Value.oneCell']) (by omega) (by have := HB4.out.size; simp; omega) ?_; intro a' cap' w' hown hg))
        go_roundw
        case rel =>
          have e := filt_yes HFK.out HBS.out
          refine ⟨k + 1, a', cap', by rw [e, List.length_append]; rfl, by go_num, by omega, ?_, HB4.out.trans (((Below.refl _ w4).alloc HB4.out.size _).trans (grown_below (HO4.out.alloc _) hg.out (by have := HB4.out.size; simp; omega)))⟩
          rw [e, List.length_append, hv_append, hv_one']; exact hown.out
        case measure => simp [intOf]; omega
    · obtain rfl : k = n := by omega
      have htk : s.take k = s := List.take_of_length_le (by rw [HX.out]; exact Nat.le_refl _)
      have HO' := HO.out
      rw [htk] at HO' ⊢
      have HO2 := Lib.hid HO'
      clear HO HO' htk
      go_wp2_with fail
      go_ret
      exact ⟨⟨a5, c5, rfl, HO2.out⟩, HB.out⟩
set_option maxRecDepth 100000 in
set_option maxHeartbeats 4000000 in
/-- Which sources stay, as (stolon/memb.hearing).wanted$1 tells. -/
theorem mThoseW (p : Hd → Bool) (a : Option Addr) (n c : Nat) (s : List Hd) (w : World) (hx : s.length = n) (hn : n ≤ 100000) (hH : Hs w a s)
    (hcall : ∀ (w1 : World) (x : Hd), Below w.heap.size w w1 → x ∈ s → Calls Tryz.prog 136 #[.agg #[.int .u32 x.1, .int .i64 x.2]] w1 fun e w' => e = .returned (.bool (p x)) ∧ Below w1.heap.size w1 w') :
    Calls Tryz.prog 107 #[.slice a n c, .func (.func 136) #[] #[]] w fun e w' => OutK w e w' (s.filter p) := by
  obtain ⟨i0, hi, hz0, hz1, hz2⟩ := info_parts infoHd
  have HX := Lib.hid hx
  have HH := Lib.hid hH
  have HC := Lib.hid hcall
  clear hx hH hcall
  go_enter Tryz.func107, Tryz.ntmps107
  go_wp2
  go_loopw [5, 10] (fun v5 v10 wr => ∃ (k : Nat) (a5 : Option Addr) (c5 : Nat), v5 = .slice a5 ((s.take k).filter p).length c5 ∧ v10 = .int .i64 (k : Int) ∧ k ≤ n ∧ wr.ownsRow w.heap.size 86 2 (.slice a5 ((s.take k).filter p).length c5) ((s.take k).filter p).length (hv ((s.take k).filter p)) ∧
    Below w.heap.size w wr) (fun _ v _ => n - (intOf v).toNat)
  case atStart => exact ⟨0, none, 0, by simp, rfl, by omega, by simpa [hv] using World.ownsRow_nil _ _ _ _, Below.refl _ _⟩
  case round =>
    obtain ⟨k, a5, c5, rfl, rfl, hk, ho, hB⟩ := hrel
    have HO := Lib.hid ho
    have HB := Lib.hid hB
    have hol : ((s.take k).filter p).length ≤ 100000 := Nat.le_trans (filt_len s p k) (by rw [HX.out]; exact hn)
    clear ho hB
    by_cases hlt : k < n
    · obtain ⟨b, off, rfl, hc⟩ := HH.out.at (k := k) (by rw [HX.out]; exact hlt)
      obtain ⟨⟨x1, x2⟩, hfk⟩ : ∃ x, s[k]? = some x := ⟨_, List.getElem?_eq_getElem (by rw [HX.out]; exact hlt)⟩
      obtain ⟨d0, d1⟩ := (hc k _ hfk).below HB.out
      simp only at d0 d1
      have HFK := Lib.hid hfk
      have hkz : (k : Int) < (n : Int) := by omega
      clear hc hfk
      go_wp2_with fail
      have hb1 := bel1 wr (.cells #[.int .u32 x1, .int .i64 x2] 86)
      have HO1 := Lib.hid (HO.out.alloc (.cells #[.int .u32 x1, .int .i64 x2] 86))
      obtain ⟨e0, e1⟩ := held_new wr (.int .u32 x1) (.int .i64 x2)
      have HB1 := Lib.hid (HB.out.trans (hb1.mono HB.out.size))
      clear hb1 HB HO d0 d1
      generalize wr.alloc (.cells #[.int .u32 x1, .int .i64 x2] 86) = w3 at *
      refine (HC.out w3 (x1, x2) HB1.out (List.mem_of_getElem? HFK.out)).mono ?_
      rintro e w4 ⟨rfl, hb4⟩
      replace e0 := (hb4.cell (cell_lt e0)).trans e0
      replace e1 := (hb4.cell (cell_lt e1)).trans e1
      have HO4 := Lib.hid (own_grown HO1.out hb4 (Nat.le_refl _))
      have HB4 := Lib.hid (HB1.out.trans (hb4.mono HB1.out.size))
      clear hb4 HO1 HB1
      obtain ⟨bs, hbs⟩ : ∃ bs, p (x1, x2) = bs := ⟨_, rfl⟩
      rw [hbs]
      have HBS := Lib.hid hbs
      clear hbs
      cases bs
      · go_wp2_with fail
        go_roundw
        case rel =>
          have e := filt_no HFK.out HBS.out
          exact ⟨k + 1, a5, c5, by rw [e], by go_num, by omega, by rw [e]; exact HO4.out, HB4.out⟩
        case measure => simp [intOf]; omega
      · have hn1 := news_new w4 [.int .u32 x1, .int .i64 x2] 86
        have HN1 := Lib.hid hn1
        clear hn1
        go_wp2_with ((refine wpList_app_cell rfl 26 86 i0 _ 2 16 Tryz.underlying26 hi hz0 hz1 hz2 rfl (by decide) (by omega) (.tmp 17) (.tmp 19) rfl w.heap.size _ ((s.take k).filter p).length (hv ((s.take k).filter p)) rfl (HO4.out.alloc _) ⟨w4.heap.size, 0, none⟩ 1 [.int .u32 x1, .int .i64 x2] rfl rfl HN1.out (by simp [Value.oneCell']) (by omega) (by have := HB4.out.size; simp; omega) ?_; intro a' cap' w' hown hg))
        go_roundw
        case rel =>
          have e := filt_yes HFK.out HBS.out
          refine ⟨k + 1, a', cap', by rw [e, List.length_append]; rfl, by go_num, by omega, ?_, HB4.out.trans (((Below.refl _ w4).alloc HB4.out.size _).trans (grown_below (HO4.out.alloc _) hg.out (by have := HB4.out.size; simp; omega)))⟩
          rw [e, List.length_append, hv_append, hv_one']; exact hown.out
        case measure => simp [intOf]; omega
    · obtain rfl : k = n := by omega
      have htk : s.take k = s := List.take_of_length_le (by rw [HX.out]; exact Nat.le_refl _)
      have HO' := HO.out
      rw [htk] at HO' ⊢
      have HO2 := Lib.hid HO'
      clear HO HO' htk
      go_wp2_with fail
      go_ret
      exact ⟨⟨a5, c5, rfl, HO2.out⟩, HB.out⟩
set_option maxRecDepth 100000 in
set_option maxHeartbeats 4000000 in
/-- Which sources stay, as stolon/memb.Tick$1 tells. -/
theorem mThoseT (v1 : Value) (v2 : Value) (p : Hd → Bool) (a : Option Addr) (n c : Nat) (s : List Hd) (w : World) (hx : s.length = n) (hn : n ≤ 100000) (hH : Hs w a s)
    (hcall : ∀ (w1 : World) (x : Hd), Below w.heap.size w w1 → x ∈ s → Calls Tryz.prog 108 #[.agg #[.int .u32 x.1, .int .i64 x.2], v1, v2] w1 fun e w' => e = .returned (.bool (p x)) ∧ Below w1.heap.size w1 w') :
    Calls Tryz.prog 107 #[.slice a n c, .func (.func 108) #[] #[v1, v2]] w fun e w' => OutK w e w' (s.filter p) := by
  obtain ⟨i0, hi, hz0, hz1, hz2⟩ := info_parts infoHd
  have HX := Lib.hid hx
  have HH := Lib.hid hH
  have HC := Lib.hid hcall
  clear hx hH hcall
  go_enter Tryz.func107, Tryz.ntmps107
  go_wp2
  go_loopw [5, 10] (fun v5 v10 wr => ∃ (k : Nat) (a5 : Option Addr) (c5 : Nat), v5 = .slice a5 ((s.take k).filter p).length c5 ∧ v10 = .int .i64 (k : Int) ∧ k ≤ n ∧ wr.ownsRow w.heap.size 86 2 (.slice a5 ((s.take k).filter p).length c5) ((s.take k).filter p).length (hv ((s.take k).filter p)) ∧
    Below w.heap.size w wr) (fun _ v _ => n - (intOf v).toNat)
  case atStart => exact ⟨0, none, 0, by simp, rfl, by omega, by simpa [hv] using World.ownsRow_nil _ _ _ _, Below.refl _ _⟩
  case round =>
    obtain ⟨k, a5, c5, rfl, rfl, hk, ho, hB⟩ := hrel
    have HO := Lib.hid ho
    have HB := Lib.hid hB
    have hol : ((s.take k).filter p).length ≤ 100000 := Nat.le_trans (filt_len s p k) (by rw [HX.out]; exact hn)
    clear ho hB
    by_cases hlt : k < n
    · obtain ⟨b, off, rfl, hc⟩ := HH.out.at (k := k) (by rw [HX.out]; exact hlt)
      obtain ⟨⟨x1, x2⟩, hfk⟩ : ∃ x, s[k]? = some x := ⟨_, List.getElem?_eq_getElem (by rw [HX.out]; exact hlt)⟩
      obtain ⟨d0, d1⟩ := (hc k _ hfk).below HB.out
      simp only at d0 d1
      have HFK := Lib.hid hfk
      have hkz : (k : Int) < (n : Int) := by omega
      clear hc hfk
      go_wp2_with fail
      have hb1 := bel1 wr (.cells #[.int .u32 x1, .int .i64 x2] 86)
      have HO1 := Lib.hid (HO.out.alloc (.cells #[.int .u32 x1, .int .i64 x2] 86))
      obtain ⟨e0, e1⟩ := held_new wr (.int .u32 x1) (.int .i64 x2)
      have HB1 := Lib.hid (HB.out.trans (hb1.mono HB.out.size))
      clear hb1 HB HO d0 d1
      generalize wr.alloc (.cells #[.int .u32 x1, .int .i64 x2] 86) = w3 at *
      refine (HC.out w3 (x1, x2) HB1.out (List.mem_of_getElem? HFK.out)).mono ?_
      rintro e w4 ⟨rfl, hb4⟩
      replace e0 := (hb4.cell (cell_lt e0)).trans e0
      replace e1 := (hb4.cell (cell_lt e1)).trans e1
      have HO4 := Lib.hid (own_grown HO1.out hb4 (Nat.le_refl _))
      have HB4 := Lib.hid (HB1.out.trans (hb4.mono HB1.out.size))
      clear hb4 HO1 HB1
      obtain ⟨bs, hbs⟩ : ∃ bs, p (x1, x2) = bs := ⟨_, rfl⟩
      rw [hbs]
      have HBS := Lib.hid hbs
      clear hbs
      cases bs
      · go_wp2_with fail
        go_roundw
        case rel =>
          have e := filt_no HFK.out HBS.out
          exact ⟨k + 1, a5, c5, by rw [e], by go_num, by omega, by rw [e]; exact HO4.out, HB4.out⟩
        case measure => simp [intOf]; omega
      · have hn1 := news_new w4 [.int .u32 x1, .int .i64 x2] 86
        have HN1 := Lib.hid hn1
        clear hn1
        go_wp2_with ((refine wpList_app_cell rfl 26 86 i0 _ 2 16 Tryz.underlying26 hi hz0 hz1 hz2 rfl (by decide) (by omega) (.tmp 17) (.tmp 19) rfl w.heap.size _ ((s.take k).filter p).length (hv ((s.take k).filter p)) rfl (HO4.out.alloc _) ⟨w4.heap.size, 0, none⟩ 1 [.int .u32 x1, .int .i64 x2] rfl rfl HN1.out (by simp [Value.oneCell']) (by omega) (by have := HB4.out.size; simp; omega) ?_; intro a' cap' w' hown hg))
        go_roundw
        case rel =>
          have e := filt_yes HFK.out HBS.out
          refine ⟨k + 1, a', cap', by rw [e, List.length_append]; rfl, by go_num, by omega, ?_, HB4.out.trans (((Below.refl _ w4).alloc HB4.out.size _).trans (grown_below (HO4.out.alloc _) hg.out (by have := HB4.out.size; simp; omega)))⟩
          rw [e, List.length_append, hv_append, hv_one']; exact hown.out
        case measure => simp [intOf]; omega
    · obtain rfl : k = n := by omega
      have htk : s.take k = s := List.take_of_length_le (by rw [HX.out]; exact Nat.le_refl _)
      have HO' := HO.out
      rw [htk] at HO' ⊢
      have HO2 := Lib.hid HO'
      clear HO HO' htk
      go_wp2_with fail
      go_ret
      exact ⟨⟨a5, c5, rfl, HO2.out⟩, HB.out⟩
/-- Addresses in a row of the call's own. -/
def OutV (w : World) (e : Ending) (w' : World) (zs : List Int) : Prop := (∃ a c, e = .returned (.slice a zs.length c) ∧ As w' a zs ∧ Flat a zs.length c ∧ w'.ownsRow w.heap.size 25 1 (.slice a zs.length c) zs.length (va zs)) ∧ Below w.heap.size w w'
theorem vown_le {w : World} {B B' n size : Nat} {e : TypeId} {v : Value} {xs : List Value} (h : w.ownsRow B e size v n xs) (hB : B' ≤ B) : w.ownsRow B' e size v n xs := by
  refine ⟨h.1, ?_⟩
  rcases h.2 with h1 | ⟨g, cap, cur, e1, hg, h3⟩
  · exact .inl h1
  · exact .inr ⟨g, cap, cur, e1, by omega, h3⟩
theorem outv_of {w w' : World} {v : Value} {zs : List Int} (h : w'.ownsRow w.heap.size 25 1 v zs.length (va zs)) (hA : IsA zs) (hb : Below w.heap.size w w') : OutV w (.returned v) w' zs := by
  obtain ⟨⟨a, c, e, h1, h2⟩, h3⟩ := out_of h hA hb
  cases e
  exact ⟨⟨a, c, rfl, h1, h2, h⟩, h3⟩
set_option maxRecDepth 100000 in
set_option maxHeartbeats 4000000 in
/-- The addresses of sources. -/
theorem mAddrs (a : Option Addr) (n c : Nat) (s : List Hd) (w : World) (hx : s.length = n) (hn : n ≤ 100000) (hH : Hs w a s) :
    Calls Tryz.prog 116 #[.slice a n c] w fun e w' => OutV w e w' (ad s) := by
  have HX := Lib.hid hx
  have HH := Lib.hid hH
  clear hx hH
  go_enter Tryz.func116, Tryz.ntmps116
  go_wp2
  go_loopw [3, 8] (fun v3 v8 wr => ∃ (k : Nat) (a3 : Option Addr) (c3 : Nat), v3 = .slice a3 (ad (s.take k)).length c3 ∧ v8 = .int .i64 (k : Int) ∧ k ≤ n ∧ wr.ownsRow w.heap.size 25 1 (.slice a3 (ad (s.take k)).length c3) (ad (s.take k)).length (va (ad (s.take k))) ∧
    Below w.heap.size w wr) (fun _ v _ => n - (intOf v).toNat)
  case atStart => exact ⟨0, none, 0, by simp [ad], rfl, by omega, by simpa [ad, va] using World.ownsRow_nil _ _ _ _, Below.refl _ _⟩
  case round =>
    obtain ⟨k, a3, c3, rfl, rfl, hk, ho, hB⟩ := hrel
    have HO := Lib.hid ho
    have HB := Lib.hid hB
    have hol : (ad (s.take k)).length ≤ 100000 := by rw [ad_len]; exact Nat.le_trans (List.length_take_le' _ _) (by rw [HX.out]; exact hn)
    clear ho hB
    by_cases hlt : k < n
    · obtain ⟨b, off, rfl, hc⟩ := HH.out.at (k := k) (by rw [HX.out]; exact hlt)
      obtain ⟨⟨x1, x2⟩, hfk⟩ : ∃ x, s[k]? = some x := ⟨_, List.getElem?_eq_getElem (by rw [HX.out]; exact hlt)⟩
      obtain ⟨d0, d1⟩ := (hc k _ hfk).below HB.out
      simp only at d0 d1
      have HFK := Lib.hid hfk
      have HR1 := Lib.hid (HH.out.2 _ (List.mem_of_getElem? hfk)).1
      have hkz : (k : Int) < (n : Int) := by omega
      clear hc hfk
      have hN := as_new' (wr.alloc (.cells #[.int .u32 x1, .int .i64 x2] 86)) [x1] (isA_iff.2 (by simpa using HR1.out))
      rw [World.size_alloc] at hN
      have HN := Lib.hid hN
      clear hN
      go_wp2_with ((refine wpList_app_as rfl (.tmp 12) (.tmp 15) rfl w.heap.size _ (ad (s.take k)).length (ad (s.take k)) rfl ((HO.out.alloc _).alloc _) rfl (some ⟨wr.heap.size + 1, 0, none⟩) 1 1 [x1] rfl rfl HN.out (by intro e; cases e) (by omega) (by have := HB.out.size; simp; omega) ?_; intro a' cap' w' hown hg))
      go_roundw
      case rel =>
        have e : ad (s.take (k + 1)) = ad (s.take k) ++ [x1] := by rw [takeH HFK.out]; simp [ad]
        refine ⟨k + 1, a', cap', by rw [e, List.length_append]; rfl, by go_num, by omega, by rw [e, List.length_append]; exact hown.out, HB.out.trans ((((Below.refl _ wr).alloc HB.out.size _).alloc (by have := HB.out.size; simp; omega) _).trans (grown_below ((HO.out.alloc _).alloc _) hg.out (by have := HB.out.size; simp; omega)))⟩
      case measure => simp [intOf]; omega
    · obtain rfl : k = n := by omega
      have htk : s.take k = s := List.take_of_length_le (by rw [HX.out]; exact Nat.le_refl _)
      have HO' := HO.out
      rw [htk] at HO' ⊢
      have HO2 := Lib.hid HO'
      clear HO HO' htk
      go_wp2_with fail
      go_ret
      exact outv_of HO2.out (isA_iff.2 (ins_ad HH.out.2)) HB.out
end Go.Proofs.YtiabbkjmgaemaaaGreat
/- sort.Slice of sources that are kept, by their addresses. -/
namespace Go.Proofs.YtiabbkjmgaemaaaGreat
set_option linter.unusedVariables false
open Go.RowKit

noncomputable def hsT : TypeInfo := (Tryz.prog.info? 26).get (by kernel_rfl)
noncomputable def hsE : TypeInfo := (Tryz.prog.info? 86).get (by kernel_rfl)
theorem hsK (n : Nat) (h2 : 2 ≤ n) : Lib.swapperK n hsE 25 = 9 := by
  have a : hsE.hasPointers = false := by kernel_rfl
  have b : hsE.bytes = 16 := by kernel_rfl
  have c : (n == 0) = false := by simp; omega
  have d : (n == 1) = false := by simp; omega
  simp [Lib.swapperK, a, b, c, d]
def hlt (x y : Hd) : Bool := decide (x.1 < y.1)
theorem swo_hlt : Go.Sort.SWO hlt where
  irrefl := fun x => by simp [hlt]
  trans := fun x y z h1 h2 => by simp [hlt] at *; omega
  ntrans := fun x y z h1 h2 => by simp [hlt] at *; omega
theorem vLess (x y : Int) (w : World) : Calls Tryz.prog 131 #[.int .u32 x, .int .u32 y] w fun e w' => e = .returned (.bool (decide (x < y))) ∧ w' = w := by
  go_enter Tryz.func131, Tryz.ntmps131
  go_wp2
  go_ret
  exact ⟨rfl, rfl⟩
set_option maxHeartbeats 2000000 in
/-- What the sort asks. -/
theorem mLess (B b off c size : Nat) (W : World) (G : Nat → Int) (hs : W.cell? ⟨B, 3, none⟩ = some (.slice (some ⟨b, off, none⟩) size c))
    (hc : ∀ t, t < size → W.cell? ⟨b, off + t * 2, none⟩ = some (.int .u32 (G t))) (i j : Nat) (hi : i < size) (hj : j < size) (hsz : size < 4611686018427387904) :
    Calls Tryz.prog 130 #[.int .i64 i, .int .i64 j, .pointer (some ⟨B, 0, none⟩)] W fun e w' => e = .returned (.bool (decide (G i < G j))) ∧ ∃ q, w' = W.drewN q := by
  have c0 : ∀ q, (W.drewN q).cell? ⟨B, 3, none⟩ = some (.slice (some ⟨b, off, none⟩) size c) := fun q => hs
  have c1 : ∀ q, (W.drewN q).cell? ⟨b, off + i * 2, none⟩ = some (.int .u32 (G i)) := fun q => hc i hi
  have c2 : ∀ q, (W.drewN q).cell? ⟨b, off + j * 2, none⟩ = some (.int .u32 (G j)) := fun q => hc j hj
  have i0 : (0 : Int) ≤ (i : Int) := by omega
  have i1 : (i : Int) < (size : Int) := by omega
  have j0 : (0 : Int) ≤ (j : Int) := by omega
  have j1 : (j : Int) < (size : Int) := by omega
  clear hs hc
  go_enter Tryz.func130, Tryz.ntmps130
  go_wp2
  go_quiet (first | (go_at_call 131; refine Calls.quiet_of_same (vLess _ _ _)))
  go_wp2
  go_ret
  exact ⟨rfl, _, rfl⟩
theorem but1_putV {α : Type} [Inhabited α] (enc : α → Value) (w : World) (q g off : Nat) (d : Array α) : But1 g w (Go.Sort.putRow enc (Go.Sort.ahead w q) g off d) :=
  ⟨rfl, rfl, rfl, by simp, fun k hk hne => by
    simp only [Go.Sort.putRow, Go.Sort.mapBlock, Array.getElem?_modify, Go.Sort.heap_ahead, if_neg (Ne.symm hne)]⟩
theorem below_grow {B : Nat} {w w' : World} (os : Array Obj) (h : Below B w w') (hB : B ≤ w.heap.size) : Below B w (Go.Sort.grow w' os) :=
  ⟨h.os, h.tape, h.output, by have := h.size; simp only [Go.Sort.grow, Array.size_append]; omega, fun k hk => by
    have h1 := h.size
    simp only [Go.Sort.grow]
    rw [Array.getElem?_append_left (by omega)]
    exact h.block k hk⟩
theorem get_list! (s : List Hd) (i : Nat) (h : i < s.length) : s.toArray[i]! = s[i] := by
  rw [getElem!_pos s.toArray i (by simpa using h)]
  simp
theorem own_holds {w : World} {B : Nat} {c : Nat} {s : List Hd} {a : Option Addr} (h : w.ownsRow B 86 2 (.slice a s.length c) s.length (hv s)) (hn : 0 < s.length) : ∃ g, a = some ⟨g, 0, none⟩ ∧ B ≤ g ∧ g < w.heap.size ∧ Go.Sort.HoldsK hcs 2 w g 0 s.toArray := by
  obtain ⟨hl, h⟩ := h
  rcases h with ⟨_, e⟩ | ⟨g, cap, cur, e, hB, hg, hnc, _, hsz, htk⟩
  · omega
  · simp at e
    obtain ⟨rfl, rfl⟩ := e
    refine ⟨g, rfl, hB, (Array.getElem?_eq_some_iff.1 hg).1, fun j hj => ?_⟩
    rw [Go.Sort.size_flatK] at hj
    have hj2 : j < s.length * 2 := by simpa using hj
    refine ⟨?_, by simp [World.frozen?, hg]⟩
    rw [Go.Sort.get_flatK _ _ _ _ hj, Nat.zero_add, get_list! s (j / 2) (by omega)]
    have h1 := hv_at s (j / 2) s[j / 2] (List.getElem?_eq_getElem (by omega)) (j % 2) (by omega)
    rw [show j / 2 * 2 + j % 2 = j by omega, ← htk, List.getElem?_take_of_lt (by omega)] at h1
    have h2 : (hcs s[j / 2])[j % 2]? = some (hcs s[j / 2])[j % 2]! := by
      rw [List.getElem?_eq_getElem (by simp [hcs]; omega), getElem!_pos (hcs s[j / 2]) (j % 2) (by simp [hcs]; omega)]
    rw [h2] at h1
    simp only [World.cell?, hg, id]
    simpa using h1
set_option maxHeartbeats 2000000 in
/-- The row of sources is sorted by addresses. -/
theorem mSort (N B c : Nat) (a : Option Addr) (s : List Hd) (w : World) (hown : w.ownsRow B 86 2 (.slice a s.length c) s.length (hv s)) (hB : B ≤ w.heap.size) (hN : w.cell? ⟨N, 3, none⟩ = some (.slice a s.length c)) (hNB : N < B)
    (hi : InS s) (hnd : (ad s).Nodup) (hsz : s.length ≤ 1000000) :
    Calls Tryz.prog 129 #[.iface 26 (.slice a s.length c), .func (.func 130) #[] #[.pointer (some ⟨N, 0, none⟩)]] w fun e w' =>
      e = .returned (.tuple #[]) ∧ ∃ d : List Hd, d.Perm s ∧ Inc (ad d) ∧ HT w' a d ∧ Below B w w' := by
  by_cases h2 : 2 ≤ s.length
  · have hty := (own_ht hown rfl hi).2
    obtain ⟨g, rfl, hBg, hg, hH⟩ := own_holds hown (by omega)
    have hd : s.toArray.size = s.length := by simp
    have hless : Go.Proofs.LessReadsK Tryz.prog 130 #[.pointer (some ⟨N, 0, none⟩)] hcs 2 hlt g 0 s.toArray.size w := by
      intro m os dk hs i j hi hj
      have e : Go.Proofs.sortWorldK hcs 2 w g 0 m dk os = Go.Sort.putRowK hcs 2 (Go.Sort.grow (Go.Sort.ahead w m) os) g 0 dk := by
        unfold Go.Proofs.sortWorldK; rw [Go.Sort.putRowK_grow _ _ (Go.Sort.ahead w m) _ g 0 _ hg]
      have hHg : Go.Sort.HoldsK hcs 2 (Go.Sort.grow (Go.Sort.ahead w m) os) g 0 s.toArray := Go.Sort.holdsK_grow _ _ _ _ g 0 s.toArray hg (Go.Sort.holdsK_ahead _ _ _ _ _ _ _ hH)
      refine mLess N g 0 c s.toArray.size _ (fun t => dk[t]!.1) ?_ (fun t ht => ?_) i j hi hj (by omega)
      · rw [e, Go.Sort.cell?_putRowK_other _ _ _ g 0 dk _ (by show N ≠ g; omega), Go.Sort.cell?_grow _ _ _ (by show N < w.heap.size; omega), hd]; exact hN
      · rw [e]; exact ((Go.Sort.holdsK_putRowK _ _ _ g 0 s.toArray dk hHg hs).cell (i := t) (c := 0) (by omega) (by omega)).1
    rw [← hd]
    refine (Go.Proofs.Any.sort_Slice_cells_sorted Tryz.laysGg6 26 86 hsT hsE (by kernel_rfl) (by kernel_rfl) (by kernel_rfl) (by kernel_rfl) 25 (fun _ => by kernel_rfl) hcs 2 (fun _ => rfl) (by kernel_rfl) (fun _ => by kernel_rfl)
      (fun x v hv => hcs_one x v hv) hlt swo_hlt 130 _
      (enters_of Tryz.func130 (by kernel_rfl) rfl) g 0 c s.toArray (by omega) (by omega) 172 (by rw [hsK _ (by omega)]; kernel_rfl) false
      (fun args W => Go.run_callFunc_extern Tryz.func172 (by kernel_rfl) (by kernel_rfl) (by kernel_rfl) (e := Extern.ReflectliteSwapper.swap false) (by kernel_rfl) args W) w hless hH hg).mono ?_
    rintro e w' ⟨rfl, d', n, os, hP, hS, rfl⟩
    have hsd : d'.size = s.toArray.size := hP.1
    have hperm : d'.toList.Perm s := by
      have h1 := hP.2.2
      have e1 : (s.toArray.extract 0 s.toArray.size).toList = s := by simp
      have e2 : (d'.extract 0 s.toArray.size).toList = d'.toList := by rw [← hsd]; simp
      rw [e1, e2] at h1
      exact h1
    have hndd : (ad d'.toList).Nodup := (hperm.map Prod.fst).nodup_iff.2 hnd
    have hgrow : Below B w (Go.Sort.putRowK hcs 2 (Go.Sort.ahead w n) g 0 d') := (but1_putV id w n g 0 (Go.Sort.flatK hcs 2 d')).below hBg hB
    have htg : ∃ cs p, (Go.Sort.grow (Go.Sort.putRowK hcs 2 (Go.Sort.ahead w n) g 0 d') os).heap[g]? = some (.cells cs 86 p) := by
      rcases hty with h | ⟨b, off, cs, p, e, h⟩
      · rw [h] at h2; simp at h2
      · cases e
        have hgl : g < (Go.Sort.putRowK hcs 2 (Go.Sort.ahead w n) g 0 d').heap.size := by have := hgrow.size; omega
        simp only [Go.Sort.grow]
        rw [Array.getElem?_append_left hgl]
        simp only [Go.Sort.putRowK, Go.Sort.putRow, Go.Sort.mapBlock, Array.getElem?_modify, Go.Sort.heap_ahead, if_true, h, Option.map_some, Go.Sort.onCells]
        exact ⟨_, _, rfl⟩
    obtain ⟨csg, pg, htg⟩ := htg
    refine ⟨rfl, d'.toList, hperm, sorted_inc hndd (fun i j hi hj hij => ?_), ⟨⟨.inr ⟨g, 0, rfl, fun k x hk => ?_⟩, fun x hx => hi x (hperm.mem_iff.1 hx)⟩, .inr ⟨g, 0, csg, pg, rfl, htg⟩⟩, below_grow os hgrow hB⟩
    · have h1 := hS i j (by omega) hij (by have : d'.toList.length = d'.size := by simp
                                           omega)
      rw [getElem!_pos d' i (by simpa using hi), getElem!_pos d' j (by simpa using hj)] at h1
      simp only [hlt, decide_eq_false_iff_not] at h1
      simpa using h1
    · have hk2 : k < d'.size := by have := (List.getElem?_eq_some_iff.1 hk).1; simpa using this
      have hx : d'[k]! = x := by
        rw [getElem!_pos d' k hk2]
        have := (List.getElem?_eq_some_iff.1 hk).2
        simpa using this
      have hh := Go.Sort.holdsK_grow hcs 2 _ os g 0 d' (by have := hgrow.size; omega) (Go.Sort.holdsK_putRowK hcs 2 (Go.Sort.ahead w n) g 0 s.toArray d' (Go.Sort.holdsK_ahead _ _ _ n _ _ _ hH) hsd)
      have q0 := (hh.cell (i := k) (c := 0) hk2 (by omega)).1
      have q1 := (hh.cell (i := k) (c := 1) hk2 (by omega)).1
      rw [hx] at q0 q1
      exact ⟨by simpa [hcs] using q0, by simpa [hcs, Nat.add_assoc] using q1⟩
  · have h01 : s.length = 0 ∨ s.length = 1 := by omega
    have hinc : Inc (ad s) := by
      rcases h01 with h | h
      · rw [List.eq_nil_of_length_eq_zero h]; exact inc_nil
      · obtain ⟨x, rfl⟩ := List.length_eq_one_iff.1 h
        exact List.pairwise_singleton _ _
    have tiny : ∀ (f : Nat), Tryz.prog.funcs.findIdx? (·.name == "internal/reflectlite" ++ ".Swapper$" ++ toString (Lib.swapperK s.length hsE 25)) = some f → Calls Tryz.prog 129 #[.iface 26 (.slice a s.length c), .func (.func 130) #[] #[.pointer (some ⟨N, 0, none⟩)]] w fun e w' => e = .returned (.tuple #[]) ∧ ∃ os, w' = Go.Sort.grow w os := fun f hf =>
      Go.Proofs.Any.sort_Slice_tiny Tryz.laysGg6 26 86 hsT hsE (by kernel_rfl) (by kernel_rfl) (by kernel_rfl) (by kernel_rfl) 25 (fun _ => by kernel_rfl) a s.length c (by omega) f hf (.func 130) #[] #[.pointer (some ⟨N, 0, none⟩)] w
    have hs : HT w a s := own_ht hown rfl hi
    have fin : ∀ (f : Nat), Tryz.prog.funcs.findIdx? (·.name == "internal/reflectlite" ++ ".Swapper$" ++ toString (Lib.swapperK s.length hsE 25)) = some f → Calls Tryz.prog 129 #[.iface 26 (.slice a s.length c), .func (.func 130) #[] #[.pointer (some ⟨N, 0, none⟩)]] w fun e w' =>
      e = .returned (.tuple #[]) ∧ ∃ d : List Hd, d.Perm s ∧ Inc (ad d) ∧ HT w' a d ∧ Below B w w' := fun f hf => (tiny f hf).mono (by
        rintro e w' ⟨rfl, os, rfl⟩
        exact ⟨rfl, s, List.Perm.refl _, hinc, hs.below (below_grow os (Below.refl _ w) (Nat.le_refl _)), below_grow os (Below.refl _ w) hB⟩)
    rcases h01 with h | h
    · exact fin 164 (by rw [h]; kernel_rfl)
    · exact fin 165 (by rw [h]; kernel_rfl)
end Go.Proofs.YtiabbkjmgaemaaaGreat
/- What tells which sources stay: the closures; sets that are kept. -/
namespace Go.Proofs.YtiabbkjmgaemaaaGreat
set_option linter.unusedVariables false
open Go.RowKit

theorem cKeep (B : Nat) (la : Option Addr) (ln lc : Nat) (xs : List Int) (x : Hd) (w : World) (hx : xs.length = ln) (hm : ln ≤ 1000000) (hB : w.cell? ⟨B, 0, none⟩ = some (.slice la ln lc)) (h : As w la xs) :
    Calls Tryz.prog 127 #[.agg #[.int .u32 x.1, .int .i64 x.2], .pointer (some ⟨B, 0, none⟩)] w fun e w' => e = .returned (.bool (!decide (x.1 ∈ xs))) ∧ Below w.heap.size w w' := by
  obtain ⟨x1, x2⟩ := x
  have HX := Lib.hid hx
  have hb := bel1 w (.cells #[.int .u32 x1, .int .i64 x2] 86)
  have c0 := (hb.cell (cell_lt hB)).trans hB
  have H := Lib.hid (h.below hb)
  have HB := Lib.hid hb
  clear hx h hB hb
  go_enter Tryz.func127, Tryz.ntmps127
  go_wp2_with fail
  refine (sHas la ln lc xs x1 _ HX.out (by omega) H.out).mono ?_
  rintro e w1 ⟨rfl, rfl⟩
  go_wp2_with fail
  go_ret
  exact ⟨rfl, HB.out⟩
theorem cEx (B : Nat) (la : Option Addr) (ln lc : Nat) (xs : List Int) (x : Hd) (w : World) (hx : xs.length = ln) (hm : ln ≤ 1000000) (hB : w.cell? ⟨B, 0, none⟩ = some (.slice la ln lc)) (h : As w la xs) :
    Calls Tryz.prog 132 #[.agg #[.int .u32 x.1, .int .i64 x.2], .pointer (some ⟨B, 0, none⟩)] w fun e w' => e = .returned (.bool (decide (x.1 ∈ xs))) ∧ Below w.heap.size w w' := by
  obtain ⟨x1, x2⟩ := x
  have HX := Lib.hid hx
  have hb := bel1 w (.cells #[.int .u32 x1, .int .i64 x2] 86)
  have c0 := (hb.cell (cell_lt hB)).trans hB
  have H := Lib.hid (h.below hb)
  have HB := Lib.hid hb
  clear hx h hB hb
  go_enter Tryz.func132, Tryz.ntmps132
  go_wp2_with fail
  refine (sHas la ln lc xs x1 _ HX.out (by omega) H.out).mono ?_
  rintro e w1 ⟨rfl, rfl⟩
  go_wp2_with fail
  go_ret
  exact ⟨rfl, HB.out⟩
theorem cAsk (B : Nat) (la : Int) (x : Hd) (w : World) (hB : w.cell? ⟨B, 5, none⟩ = some (.int .i64 la)) :
    Calls Tryz.prog 133 #[.agg #[.int .u32 x.1, .int .i64 x.2], .pointer (some ⟨B, 0, none⟩)] w fun e w' => e = .returned (.bool (decide (la < x.2))) ∧ Below w.heap.size w w' := by
  obtain ⟨x1, x2⟩ := x
  have hb := bel1 w (.cells #[.int .u32 x1, .int .i64 x2] 86)
  have c0 := (hb.cell (cell_lt hB)).trans hB
  have HB := Lib.hid hb
  clear hB hb
  go_enter Tryz.func133, Tryz.ntmps133
  go_wp2_with fail
  go_ret
  exact ⟨rfl, HB.out⟩
theorem cWant (x : Hd) (w : World) :
    Calls Tryz.prog 136 #[.agg #[.int .u32 x.1, .int .i64 x.2]] w fun e w' => e = .returned (.bool (decide (0 < x.2))) ∧ Below w.heap.size w w' := by
  obtain ⟨x1, x2⟩ := x
  go_enter Tryz.func136, Tryz.ntmps136
  go_wp2_with fail
  go_ret
  exact ⟨rfl, bel1 w _⟩
theorem cTick (B N : Nat) (ex : Bool) (n : Int) (x : Hd) (w : World) (hB : w.cell? ⟨B, 1, none⟩ = some (.bool ex)) (hN : w.cell? ⟨N, 0, none⟩ = some (.int .i64 n)) :
    Calls Tryz.prog 108 #[.agg #[.int .u32 x.1, .int .i64 x.2], .pointer (some ⟨B, 0, none⟩), .pointer (some ⟨N, 0, none⟩)] w fun e w' => e = .returned (.bool (ex || decide (n < x.2))) ∧ Below w.heap.size w w' := by
  obtain ⟨x1, x2⟩ := x
  have hb := bel1 w (.cells #[.int .u32 x1, .int .i64 x2] 86)
  have c0 := (hb.cell (cell_lt hB)).trans hB
  have c1 := (hb.cell (cell_lt hN)).trans hN
  have HB := Lib.hid hb
  clear hB hN hb
  cases ex
  all_goals
    go_enter Tryz.func108, Tryz.ntmps108
    go_wp2_with fail
    go_ret
    exact ⟨rfl, HB.out⟩
theorem cWants (N : Nat) (a : Int) (x : Hd) (w : World) (hN : w.cell? ⟨N, 0, none⟩ = some (.int .u32 a)) :
    Calls Tryz.prog 74 #[.agg #[.int .u32 x.1, .int .i64 x.2], .pointer (some ⟨N, 0, none⟩)] w fun e w' => e = .returned (.bool (x.1 == a)) ∧ Below w.heap.size w w' := by
  obtain ⟨x1, x2⟩ := x
  have hb := bel1 w (.cells #[.int .u32 x1, .int .i64 x2] 86)
  have c0 := (hb.cell (cell_lt hN)).trans hN
  have HB := Lib.hid hb
  clear hN hb
  go_enter Tryz.func74, Tryz.ntmps74
  go_wp2_with fail
  go_ret
  exact ⟨rfl, HB.out⟩
/-- A record that is heard: its seven cells. -/
def hcl (g : Int) (ex : Bool) (left : Int) (a : Option Addr) (n c : Nat) (k la : Int) (q : Value) : Array Value := #[.int .u32 g, .bool ex, .int .i64 left, .slice a n c, .int .i64 k, .int .i64 la, q]
def mcl (g : Int) (ex : Bool) (left : Int) (a : Option Addr) (n c : Nat) : Array Value := #[.int .u32 g, .bool ex, .int .i64 left, .slice a n c]
theorem hear_new (w : World) (v0 v1 v2 v3 v4 v5 v6 : Value) : ∀ W, Below (w.heap.size + 1) (w.alloc (.cells #[v0, v1, v2, v3, v4, v5, v6] 95)) W → W.cell? ⟨w.heap.size, 0, none⟩ = some v0 ∧ W.cell? ⟨w.heap.size, 1, none⟩ = some v1 ∧ W.cell? ⟨w.heap.size, 2, none⟩ = some v2 ∧ W.cell? ⟨w.heap.size, 3, none⟩ = some v3 ∧ W.cell? ⟨w.heap.size, 4, none⟩ = some v4 ∧ W.cell? ⟨w.heap.size, 5, none⟩ = some v5 ∧ W.cell? ⟨w.heap.size, 6, none⟩ = some v6 := by
  intro W hb
  have hN := (hb.block w.heap.size (by omega)).trans (Go.Deep.blk_alloc_new w (.cells #[v0, v1, v2, v3, v4, v5, v6] 95))
  exact ⟨by simp only [World.cell?, hN]; rfl, by simp only [World.cell?, hN]; rfl, by simp only [World.cell?, hN]; rfl, by simp only [World.cell?, hN]; rfl, by simp only [World.cell?, hN]; rfl, by simp only [World.cell?, hN]; rfl, by simp only [World.cell?, hN]; rfl⟩
set_option maxRecDepth 100000 in
set_option maxHeartbeats 4000000 in
/-- The sources that are wanted by themselves. -/
theorem mWanted (g : Int) (ex : Bool) (left : Int) (a : Option Addr) (n c : Nat) (k la : Int) (q : Value) (s : List Hd) (w : World) (hx : s.length = n) (hn : n ≤ 100000) (hH : Hs w a s) :
    Calls Tryz.prog 115 #[.agg (hcl g ex left a n c k la q)] w fun e w' => OutV w e w' (ad (s.filter fun x => decide (0 < x.2))) := by
  have HX := Lib.hid hx
  have HH := Lib.hid hH
  clear hx hH
  unfold hcl
  go_enter Tryz.func115, Tryz.ntmps115
  go_wp2_with fail
  have hb := bel1 w (.cells #[.int .u32 g, .bool ex, .int .i64 left, .slice a n c, .int .i64 k, .int .i64 la, q] 95)
  have HB := Lib.hid hb
  refine (mThoseW (fun x => decide (0 < x.2)) a n c s _ HX.out hn (HH.out.below hb) (fun w1 x _ _ => cWant x w1)).mono ?_
  rintro e w1 ⟨⟨a1, c1, rfl, ho1⟩, hb1⟩
  have HS := Lib.hid (own_hs ho1 rfl (ins_filter _ HH.out.2))
  have HB1 := Lib.hid (hb.trans (hb1.mono hb.size))
  have hl : (s.filter fun x => decide (0 < x.2)).length ≤ 100000 := Nat.le_trans (List.length_filter_le _ _) (by rw [HX.out]; exact hn)
  clear hb hb1 ho1
  go_wp2_with fail
  refine (mAddrs a1 _ c1 _ _ rfl hl HS.out).mono ?_
  rintro e w2 ⟨⟨a2, c2, rfl, hA2, hf2, hr2⟩, hb2⟩
  have HA2 := Lib.hid hA2
  have HF2 := Lib.hid hf2
  have HR2 := Lib.hid (vown_le hr2 HB1.out.size)
  have HB2 := Lib.hid (HB1.out.trans (hb2.mono HB1.out.size))
  clear hA2 hf2 hb2 hr2
  go_wp2_with fail
  go_ret
  exact ⟨⟨a2, c2, rfl, HA2.out, HF2.out, HR2.out⟩, HB2.out⟩
end Go.Proofs.YtiabbkjmgaemaaaGreat
