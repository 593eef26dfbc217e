/- What filters want, plainly. -/
import Derived.Test.YtikanaabecmkcaaPm
namespace Go.Proofs.Ytikanaabecmkcaa
set_option linter.unusedVariables false
open Go.RowKit

/-- Does a filter want a source? -/
def wf (x : Int) (f : Flt) : Bool := decide (x ∈ f.srcs) != f.ex
theorem wf_iff {x : Int} {f : Flt} : wf x f = true ↔ (x ∈ f.srcs ∧ f.ex = false) ∨ (x ∉ f.srcs ∧ f.ex = true) := by
  unfold wf
  by_cases h : x ∈ f.srcs <;> cases h2 : f.ex <;> simp [h]
theorem wo_mem {x : Int} {fs : List Flt} : x ∈ wo fs ↔ ∃ f ∈ fs, f.ex = false ∧ x ∈ f.srcs := by
  unfold wo
  simp only [List.mem_flatMap, List.mem_filter, Bool.not_eq_true']
  constructor
  · rintro ⟨f, ⟨h1, h2⟩, h3⟩; exact ⟨f, h1, h2, h3⟩
  · rintro ⟨f, h1, h2, h3⟩; exact ⟨f, ⟨h1, h2⟩, h3⟩
theorem fold_inc (r : List Flt) (hr : ∀ g ∈ r, Inc g.srcs) (l : List Int) (hl : Inc l) : Inc (r.foldl (fun l g => int l g.srcs) l) := by
  induction r generalizing l with
  | nil => exact hl
  | cons g r ih => exact ih (fun g' h => hr g' (List.mem_cons_of_mem _ h)) _ (int_inc hl (hr g (List.mem_cons_self ..)))
theorem fold_mem (r : List Flt) (hr : ∀ g ∈ r, Inc g.srcs) (l : List Int) (hl : Inc l) (x : Int) : x ∈ r.foldl (fun l g => int l g.srcs) l ↔ x ∈ l ∧ ∀ g ∈ r, x ∈ g.srcs := by
  induction r generalizing l with
  | nil => simp
  | cons g r ih =>
    have hg := hr g (List.mem_cons_self ..)
    rw [List.foldl_cons, ih (fun g' h => hr g' (List.mem_cons_of_mem _ h)) _ (int_inc hl hg), int_mem hl hg]
    simp only [List.mem_cons, forall_eq_or_imp, and_assoc]
theorem withs_mem {fs : List Flt} {f : Flt} : f ∈ withs fs ↔ f ∈ fs ∧ f.ex = true := by simp [withs]
theorem flt_nil {fs : List Flt} (h : withs fs = []) : flt fs = (false, mk (wo fs)) := by unfold flt; rw [h]
theorem flt_cons {fs r : List Flt} {f : Flt} (h : withs fs = f :: r) : flt fs = (true, dif (r.foldl (fun l g => int l g.srcs) f.srcs) (mk (wo fs))) := by unfold flt; rw [h]
theorem flt_inc {fs : List Flt} (h : ∀ f ∈ fs, Inc f.srcs) : Inc (flt fs).2 := by
  cases hw : withs fs with
  | nil => rw [flt_nil hw]; exact mk_inc _
  | cons f r =>
    rw [flt_cons hw]
    have hm : ∀ g ∈ f :: r, Inc g.srcs := fun g hg => h g (withs_mem.1 (hw ▸ hg)).1
    exact dif_inc (fold_inc r (fun g hg => hm g (List.mem_cons_of_mem _ hg)) _ (hm f (List.mem_cons_self ..))) (mk_inc _)
theorem flt_ex {fs : List Flt} : (flt fs).1 = fs.any (·.ex) := by
  cases hw : withs fs with
  | nil =>
    rw [flt_nil hw]
    symm
    rw [List.any_eq_false]
    intro f hf h
    have : f ∈ withs fs := withs_mem.2 ⟨hf, h⟩
    rw [hw] at this
    cases this
  | cons f r =>
    rw [flt_cons hw]
    symm
    rw [List.any_eq_true]
    have : f ∈ withs fs := by rw [hw]; exact List.mem_cons_self ..
    exact ⟨f, (withs_mem.1 this).1, (withs_mem.1 this).2⟩
theorem flt_wants {fs : List Flt} (h : ∀ f ∈ fs, Inc f.srcs) (x : Int) : (decide (x ∈ (flt fs).2) != (flt fs).1) = fs.any (wf x) := by
  rw [Bool.eq_iff_iff, List.any_eq_true]
  cases hw : withs fs with
  | nil =>
    rw [flt_nil hw]
    simp only [mk_mem, wo_mem, Bool.bne_false, decide_eq_true_eq]
    constructor
    · rintro ⟨f, hf, h1, h2⟩; exact ⟨f, hf, wf_iff.2 (.inl ⟨h2, h1⟩)⟩
    · rintro ⟨f, hf, h1⟩
      rcases wf_iff.1 h1 with ⟨h2, h3⟩ | ⟨h2, h3⟩
      · exact ⟨f, hf, h3, h2⟩
      · have : f ∈ withs fs := withs_mem.2 ⟨hf, h3⟩
        rw [hw] at this
        cases this
  | cons f r =>
    rw [flt_cons hw]
    have hm : ∀ g ∈ f :: r, g ∈ fs ∧ g.ex = true := fun g hg => withs_mem.1 (hw ▸ hg)
    have h0 := h f (hm f (List.mem_cons_self ..)).1
    have hr : ∀ g ∈ r, Inc g.srcs := fun g hg => h g (hm g (List.mem_cons_of_mem _ hg)).1
    simp only [Bool.bne_true, Bool.not_eq_true', decide_eq_false_iff_not, dif_mem (fold_inc r hr _ h0) (mk_inc _), fold_mem r hr _ h0, mk_mem, wo_mem]
    constructor
    · intro hn
      by_cases h1 : ∃ g ∈ fs, g.ex = false ∧ x ∈ g.srcs
      · obtain ⟨g, hg, h2, h3⟩ := h1
        exact ⟨g, hg, wf_iff.2 (.inl ⟨h3, h2⟩)⟩
      · by_cases h2 : x ∈ f.srcs
        · have h3 : ¬ ∀ g ∈ r, x ∈ g.srcs := fun h3 => hn ⟨⟨h2, h3⟩, h1⟩
          obtain ⟨g, h4⟩ := Classical.not_forall.1 h3
          obtain ⟨hg, h5⟩ := Classical.not_imp.1 h4
          exact ⟨g, (hm g (List.mem_cons_of_mem _ hg)).1, wf_iff.2 (.inr ⟨h5, (hm g (List.mem_cons_of_mem _ hg)).2⟩)⟩
        · exact ⟨f, (hm f (List.mem_cons_self ..)).1, wf_iff.2 (.inr ⟨h2, (hm f (List.mem_cons_self ..)).2⟩)⟩
    · rintro ⟨g, hg, h1⟩ ⟨⟨h2, h3⟩, h4⟩
      rcases wf_iff.1 h1 with ⟨h5, h6⟩ | ⟨h5, h6⟩
      · exact h4 ⟨g, hg, h6, h5⟩
      · have : g ∈ withs fs := withs_mem.2 ⟨hg, h6⟩
        rw [hw] at this
        rcases List.mem_cons.1 this with rfl | h7
        · exact h5 h2
        · exact h5 (h3 g h7)
/-- Two wants that agree, with the same side, are the same set. -/
theorem wants_ext {e : Bool} {a b : List Int} (ha : Inc a) (hb : Inc b) (h : ∀ x, (decide (x ∈ a) != e) = (decide (x ∈ b) != e)) : a = b :=
  inc_ext ha hb fun x => by
    have := h x
    have h2 : decide (x ∈ a) = decide (x ∈ b) := by
      cases h1 : decide (x ∈ a) <;> cases h2 : decide (x ∈ b) <;> cases e <;> simp_all
    exact decide_eq_decide.1 h2
theorem any_succ {fs : List Flt} {k : Nat} {f : Flt} (h : fs[k]? = some f) (p : Flt → Bool) : (fs.take (k + 1)).any p = ((fs.take k).any p || p f) := by
  rw [take_succ h, List.any_append]; simp
theorem flt_len {fs : List Flt} (h : FewF fs) : (flt fs).2.length ≤ 160000 := by
  have h1 := wo_len h.2
  have h2 := h.1
  have h3 := mk_len (wo fs)
  cases hw : withs fs with
  | nil => rw [flt_nil hw]; show (mk (wo fs)).length ≤ _; omega
  | cons f r =>
    rw [flt_cons hw]
    have h4 := dif_len (r.foldl (fun l g => int l g.srcs) f.srcs) (mk (wo fs))
    have h5 := fold_len r f.srcs
    have h6 := h.2 f (withs_mem.1 (show f ∈ withs fs by rw [hw]; exact List.mem_cons_self ..)).1
    show (dif _ _).length ≤ _
    omega
/-- A filter in a variable of its own. -/
theorem box_new (w : World) (v0 v1 : Value) : (w.alloc (.cells #[v0, v1] 35)).cell? ⟨w.heap.size, 0, none⟩ = some v0 ∧ (w.alloc (.cells #[v0, v1] 35)).cell? ⟨w.heap.size, 1, none⟩ = some v1 := by
  have hN := Go.Deep.blk_alloc_new w (.cells #[v0, v1] 35)
  exact ⟨by simp only [World.cell?, hN]; rfl, by simp only [World.cell?, hN]; rfl⟩
end Go.Proofs.Ytikanaabecmkcaa
