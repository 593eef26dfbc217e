/- Package set's Make: the set of a row. -/
import Derived.Test.YtllpmepmgnnoaaaGreatOe
import Derived.Test.YtllpmepmgnnoaaaGreatPe
import Derived.Test.YtllpmepmgnnoaaaGreatLaid
namespace Go.Proofs.YtllpmepmgnnoaaaGreat
set_option linter.unusedVariables false
open Go.RowKit
open Go.Sort (PermIn)

/-- A number put into a set. -/
def insS (x : Int) : List Int → List Int
  | [] => [x]
  | y :: l => if x < y then x :: y :: l else if y < x then y :: insS x l else y :: l
theorem insS_mem (x z : Int) : ∀ l, z ∈ insS x l ↔ z = x ∨ z ∈ l
  | [] => by simp [insS]
  | y :: l => by
    rw [insS]
    split
    · simp
    · split
      · rw [List.mem_cons, insS_mem x z l, List.mem_cons]
        constructor
        · rintro (h | h | h)
          · exact .inr (.inl h)
          · exact .inl h
          · exact .inr (.inr h)
        · rintro (h | h | h)
          · exact .inr (.inl h)
          · exact .inl h
          · exact .inr (.inr h)
      · have e : x = y := by omega
        subst e; simp
theorem insS_inc (x : Int) : ∀ {l}, Inc l → Inc (insS x l)
  | [], _ => by simp [insS, inc_cons, inc_nil]
  | y :: l, h => by
    rw [inc_cons] at h
    rw [insS]
    split
    · rw [inc_cons, inc_cons]
      refine ⟨fun z hz => ?_, h⟩
      rcases List.mem_cons.1 hz with e | hz
      · omega
      · have := h.1 z hz; omega
    · split
      · rw [inc_cons]
        refine ⟨fun z hz => ?_, insS_inc x h.2⟩
        rcases (insS_mem x z l).1 hz with e | hz
        · omega
        · exact h.1 z hz
      · rw [inc_cons]; exact h
theorem insS_len (x : Int) : ∀ l : List Int, (insS x l).length ≤ l.length + 1
  | [] => by simp [insS]
  | y :: l => by
    rw [insS]
    split
    · simp
    · split
      · have := insS_len x l; simp; omega
      · simp
/-- The set of a row. -/
def mk : List Int → List Int
  | [] => []
  | x :: l => insS x (mk l)
theorem mk_inc : ∀ l, Inc (mk l)
  | [] => inc_nil
  | x :: l => insS_inc x (mk_inc l)
theorem mk_mem (z : Int) : ∀ l, z ∈ mk l ↔ z ∈ l
  | [] => Iff.rfl
  | x :: l => by rw [mk, insS_mem, mk_mem z l, List.mem_cons]
theorem mk_len : ∀ l : List Int, (mk l).length ≤ l.length
  | [] => Nat.le_refl _
  | x :: l => by
    have := insS_len x (mk l)
    have := mk_len l
    rw [mk]; simp; omega
theorem mk_of {l : List Int} (h : Inc l) : mk l = l := inc_ext (mk_inc l) h fun x => mk_mem x l
theorem mk_isA {l : List Int} (h : IsA l) : IsA (mk l) := by
  rw [isA_iff] at h ⊢
  exact fun x hx => h x ((mk_mem x l).1 hx)

/-- What stays of a row that rises, once each. -/
theorem compact_inc (d : Array Int) : ∀ m, Srt 0 m d → Inc (Lib.compactUpTo d m) ∧ (∀ x, x ∈ Lib.compactUpTo d m ↔ ∃ j, j < m ∧ d[j]! = x) ∧ ∀ x ∈ Lib.compactUpTo d m, 0 < m ∧ x ≤ d[m - 1]!
  | 0, _ => by simp [Lib.compactUpTo, inc_nil]
  | m + 1, h => by
    obtain ⟨h1, h2, h3⟩ := compact_inc d m (fun i j a b c => h i j a b (by omega))
    rw [Lib.compactUpTo_succ]
    by_cases hk : Lib.keeps d m = true
    · rw [if_pos hk]
      have hlt : ∀ x ∈ Lib.compactUpTo d m, x < d[m]! := fun x hx => by
        obtain ⟨hm, hle⟩ := h3 x hx
        have hne : d[m]! ≠ d[m - 1]! := fun e => by
          rw [Lib.keeps_neg hm e] at hk; cases hk
        have := h (m - 1) m (by omega) (by omega) (by omega)
        omega
      refine ⟨?_, fun x => ?_, fun x hx => ⟨by omega, ?_⟩⟩
      · unfold Inc
        rw [List.pairwise_append]
        exact ⟨h1, by simp, fun x hx y hy => by rw [List.mem_singleton] at hy; subst hy; exact hlt x hx⟩
      · rw [List.mem_append, h2, List.mem_singleton]
        constructor
        · rintro (⟨j, hj, e⟩ | e)
          · exact ⟨j, by omega, e⟩
          · exact ⟨m, by omega, e.symm⟩
        · rintro ⟨j, hj, e⟩
          by_cases hjm : j = m
          · subst hjm; exact .inr e.symm
          · exact .inl ⟨j, by omega, e⟩
      · rw [Nat.add_sub_cancel]
        rcases List.mem_append.1 hx with hx | hx
        · have := hlt x hx; omega
        · rw [List.mem_singleton] at hx; omega
    · have hm : 0 < m := by
        rcases Nat.eq_zero_or_pos m with rfl | hm
        · exact absurd (Lib.keeps_lt_one d 0 (by omega)) hk
        · exact hm
      have he : d[m]! = d[m - 1]! := Classical.byContradiction fun e => hk (Lib.keeps_pos e)
      rw [if_neg hk, List.append_nil]
      refine ⟨h1, fun x => ?_, fun x hx => ⟨by omega, by rw [Nat.add_sub_cancel, he]; exact (h3 x hx).2⟩⟩
      rw [h2]
      constructor
      · rintro ⟨j, hj, e⟩; exact ⟨j, by omega, e⟩
      · rintro ⟨j, hj, e⟩
        by_cases hjm : j = m
        · subst hjm; exact ⟨j - 1, by omega, by rw [← he]; exact e⟩
        · exact ⟨j, by omega, e⟩
theorem compact_mk {xs : List Int} {d' : Array Int} (hp : PermIn 0 xs.length xs.toArray d') (hs : Srt 0 xs.length d') : Lib.compactUpTo d' xs.length = mk xs := by
  obtain ⟨h1, h2, _⟩ := compact_inc d' xs.length hs
  refine inc_ext h1 (mk_inc xs) fun x => ?_
  rw [h2, mk_mem]
  have hsz : d'.size = xs.length := by rw [hp.1]; simp
  have hperm := hp.2.2
  have e1 : (xs.toArray.extract 0 xs.length).toList = xs := by simp
  have e2 : (d'.extract 0 xs.length).toList = d'.toList := by rw [← hsz]; simp
  rw [e1, e2] at hperm
  rw [← hperm.mem_iff]
  constructor
  · rintro ⟨j, hj, e⟩
    rw [← e, getElem!_pos d' j (by omega)]
    exact Array.getElem_mem_toList (by omega)
  · intro hx
    obtain ⟨i, hi, e⟩ := List.getElem_of_mem hx
    have hi' : i < d'.size := by simpa using hi
    exact ⟨i, by omega, by rw [getElem!_pos d' i hi', ← e]; simp⟩

theorem but1_put (enc : Int → Value) (w : World) (q g off : Nat) (d : Array Int) : But1 g w (Go.Sort.putRow enc (Go.Sort.ahead w q) g off d) :=
  ⟨rfl, rfl, rfl, by simp, fun k hk hne => by
    simp only [Go.Sort.putRow, Go.Sort.mapBlock, Array.getElem?_modify, Go.Sort.heap_ahead, if_neg (Ne.symm hne)]⟩
theorem Arr.holds {w : World} {g off : Nat} {d : Array Int} (h : Arr w g off d) : Go.Sort.Holds (Value.int .u32) w g off d := fun j hj => ⟨h.cell hj, h.frozen _⟩

theorem lCompact (g off cap : Nat) (d : Array Int) (w : World) (h : Arr w g off d) (hsz : d.size ≤ 1000000) (hcap : d.size ≤ cap) (hA : ∀ x ∈ Lib.compactUpTo d d.size, 0 ≤ x ∧ x ≤ 4294967295) :
    Calls Tryz.prog 50 #[.slice (some ⟨g, off, none⟩) d.size cap] w fun e w' => e = .returned (.slice (some ⟨g, off, none⟩) (Lib.compactUpTo d d.size).length cap) ∧ As w' (some ⟨g, off, none⟩) (Lib.compactUpTo d d.size) ∧ But1 g w w' := by
  refine Calls.mono (AnyE.slices_Compact Tryz.layC (Value.int .u32) (fun _ => rfl) (EqlAt.intD _ _ .u32) (NeqAt.intD _ _ .u32) 0 Tryz.zeroValue25 g off cap d w h.holds (by omega) hcap) ?_
  rintro e w' ⟨rfl, q, rfl⟩
  refine ⟨rfl, ⟨.inr ⟨g, off, rfl, fun k hk => ?_⟩, ?_⟩, but1_put _ _ _ _ _ _⟩
  · have hl : (Lib.compactUpTo d d.size).length ≤ d.size := by
      unfold Lib.compactUpTo
      rw [List.length_map]
      exact Nat.le_trans (List.length_filter_le _ _) (by simp)
    have := Go.Sort.cell?_putRow (Value.int .u32) (Go.Sort.ahead w q) g off d (Lib.compactUpTo d d.size ++ List.replicate (d.size - (Lib.compactUpTo d d.size).length) 0).toArray (Go.Sort.holds_ahead _ _ _ _ _ _ h.holds) (by simp; omega) k (by simp; omega)
    rw [this]
    congr 2
    rw [getElem!_pos _ k (by simp; omega)]
    simp [List.getElem_append_left hk, List.getD_eq_getElem?_getD, hk]
  · exact isA_iff.2 hA
theorem lCompact0 (a : Option Addr) (cap : Nat) (w : World) : Calls Tryz.prog 50 #[.slice a 0 cap] w fun e w' => e = .returned (.slice a 0 cap) ∧ w' = w := by
  go_enter Tryz.func50, Tryz.ntmps50
  go_wp2
  go_ret
  exact ⟨rfl, rfl⟩
end Go.Proofs.YtllpmepmgnnoaaaGreat
