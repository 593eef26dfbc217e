/- The law SetMore: every call returns true, and its arguments read behind the call as before it. Condition: none but the row's own. -/
import Derived.Test.YtmcbbccbonadjaaW15
namespace Go.Proofs.Ytmcbbccbonadjaa.setMore
set_option linter.unusedVariables false
open Go.ChangeShapes Go.WideShapes Go.ChangeAt Go.RowKit
open Go.ChangeMaps (open_string shut_string)

theorem flt_swap {fs : List Flt} {f : Flt} (h : ∀ g ∈ fs, Inc g.srcs) (hf : Inc f.srcs) : flt ([f] ++ fs) = flt (fs ++ [f]) := by
  have h1 : ∀ g ∈ [f] ++ fs, Inc g.srcs := fun g hg => by
    rcases List.mem_append.1 hg with k | k
    · rw [List.mem_singleton.1 k]; exact hf
    · exact h g k
  have h2 : ∀ g ∈ fs ++ [f], Inc g.srcs := fun g hg => by
    rcases List.mem_append.1 hg with k | k
    · exact h g k
    · rw [List.mem_singleton.1 k]; exact hf
  have e : (flt ([f] ++ fs)).1 = (flt (fs ++ [f])).1 := by rw [flt_ex, flt_ex, List.any_append, List.any_append, Bool.or_comm]
  refine Prod.ext e (wants_ext (e := (flt ([f] ++ fs)).1) (flt_inc h1) (flt_inc h2) fun x => ?_)
  rw [flt_wants h1]
  rw [e, flt_wants h2, List.any_append, List.any_append, Bool.or_comm]
theorem fls_box (w : World) (f : Flt) (h : FOk w f) : Fls (w.alloc (.cells #[.bool f.ex, f.sl] 25)) (some ⟨w.heap.size, 0, none⟩) [f] := by
  obtain ⟨q0, q1⟩ := filt_new w (.bool f.ex) f.sl
  refine .inr ⟨_, 0, rfl, fun k g hk => ?_⟩
  match k, hk with
  | 0, hk => cases hk; exact ⟨⟨q0, q1⟩, h.below (bel1 _ _)⟩
theorem two_cells {w : World} {g4 : Nat} {u v : Value} (h0 : w.cell? ⟨g4, 0, none⟩ = some u) (h1 : w.cell? ⟨g4, 1, none⟩ = some v) : ∀ j x, ([u, v] : List Value)[j]? = some x → w.cell? ((⟨g4, 0, none⟩ : Addr).add j) = some x := by
  intro j x hx
  rw [add_flat, Nat.zero_add]
  match j, hx with
  | 0, hx => cases hx; exact h0
  | 1, hx => cases hx; exact h1
theorem own_box (w : World) (u v : Value) : (w.alloc (.cells #[u, v] 25)).ownsRow w.heap.size 25 2 (.slice (some ⟨w.heap.size, 0, none⟩) 1 1) 1 [u, v] :=
  ⟨rfl, .inr ⟨_, 1, #[u, v], rfl, Nat.le_refl _, Go.Deep.blk_alloc_new _ _, Nat.le_refl _, by decide, rfl, rfl⟩⟩
theorem fls_src {w : World} {a : Option Addr} {fs : List Flt} (h : Fls w a fs) : ∀ ad, a = some ad → ∀ j u, (fv fs)[j]? = some u → w.cell? (ad.add j) = some u := by
  intro ad e j u hu
  by_cases h0 : 0 < fs.length
  · obtain ⟨b, off, e2, hc⟩ := Fls.cells h h0
    rw [e] at e2
    cases e2
    exact hc j u hu
  · obtain rfl : fs = [] := List.eq_nil_of_length_eq_zero (by omega)
    simp [fv] at hu
def sxR (N j : Nat) (A B : World) : Prop := (j = 5 ∨ j = 8 ∨ Below A.heap.size A B) ∧ ∀ D, N ≤ D → FBx A D → FBx B D
theorem sxR_below {N j : Nat} {w w' : World} (h : Below w.heap.size w w') : sxR N j w w' := ⟨.inr (.inr h), fun B _ ⟨b, x, y, z, e⟩ => ⟨b, x, y, z, (h.block _ (Array.getElem?_eq_some_iff.1 e).1).trans e⟩⟩
def sxK : Nat → List Nat | 0 => [2, 5, 8] | 2 => [5, 8] | 4 => [5, 8] | 5 => [8] | 6 => [8] | 7 => [8] | _ => []
theorem fls_mem {w : World} {a : Option Addr} {fs : List Flt} (h : Fls w a fs) {f : Flt} (hf : f ∈ fs) : FOk w f := by
  obtain ⟨k, hk, e⟩ := List.getElem_of_mem hf
  obtain ⟨b, off, _, hc⟩ := h.at hk
  exact (hc k f (by rw [List.getElem?_eq_getElem hk, e])).2
def sxV (N : Nat) (a : Option Addr) (n ca : Nat) (fs gs : List Flt) (ex : Bool) (fa : Option Addr) (nf fc : Nat) (p2 : Bool) (l2 : List Int) : Nat → Value → List Value → World → Prop
  | 0, v, _, w => ∃ (g24 : Nat), v = .slice (some ⟨g24, 0, none⟩) 0 0 ∧ w.ownsRow N 25 2 (.slice (some ⟨g24, 0, none⟩) 0 0) 0 []
  | 1, v, _, _ => v = .slice a n ca
  | 2, v, _, w => ∃ (v26 : Value), v = v26 ∧ OwF w N v26 fs
  | 3, v, _, _ => v = .agg #[.bool ex, .slice fa nf fc]
  | 4, v, _, w => ∃ (g28 : Nat), v = .slice (some ⟨g28, 0, none⟩) 1 1 ∧ (w.cell? ⟨g28, 0, none⟩ = some (.bool ex) ∧ w.cell? ⟨g28, 1, none⟩ = some (.slice fa nf fc))
  | 5, v, _, w => ∃ (a29 : Option Addr) (c29 : Nat), v = .slice a29 (n + 1) c29 ∧ Fls w a29 gs
  | 6, v, _, w => ∃ (a30 : Option Addr) (c30 : Nat), v = .agg #[.bool p2, .slice a30 l2.length c30] ∧ As w a30 l2
  | 7, v, _, w => ∃ (B9 : Nat), v = .pointer (some ⟨B9, 0, none⟩) ∧ N ≤ B9 ∧ FBx w B9
  | 8, v, us, w => ∃ B a30 c30, us = [.pointer (some ⟨B, 0, none⟩), .agg #[.bool p2, .slice a30 l2.length c30]] ∧ N ≤ B ∧ w.heap[B]? = some (.cells #[.bool p2, .slice a30 l2.length c30] 25 (0, 0)) ∧ As w a30 l2
  | _, _, _, _ => True
def sxD : Nat → List Nat
  | 2 => [0, 1]
  | 4 => [3]
  | 5 => [2, 4]
  | 6 => [5]
  | 8 => [7, 6]
  | _ => []
theorem owb {w w' : World} {B n size : Nat} {e : TypeId} {v : Value} {xs : List Value} (hb : Below w.heap.size w w') (h : w.ownsRow B e size v n xs) : w'.ownsRow B e size v n xs := by
  refine ⟨h.1, ?_⟩
  rcases h.2 with h2 | ⟨g, cap, cur, e1, h1, h2, h3⟩
  · exact .inl h2
  · exact .inr ⟨g, cap, cur, e1, h1, (hb.block _ (Array.getElem?_eq_some_iff.1 h2).1).trans h2, h3⟩
theorem owfb {w w' : World} {B : Nat} {v : Value} {fs : List Flt} (hb : Below w.heap.size w w') (h : OwF w B v fs) : OwF w' B v fs := by
  obtain ⟨g, c, e, h1, h2⟩ := h
  exact ⟨g, c, e, owb hb h1, h2⟩
theorem sx_st (N : Nat) (a : Option Addr) (n ca : Nat) (fs gs : List Flt) (ex : Bool) (fa : Option Addr) (nf fc : Nat) (p2 : Bool) (l2 : List Int) {i : Nat} {v : Value} {us : List Value} {w w' : World} {j : Nat} (hne : i ≠ j) (hk : j ∉ sxK i) (h65 : ¬ (i = 6 ∧ j = 5)) (h8 : i ≠ 8) (hr : sxR N j w w') (hv : sxV N a n ca fs gs ex fa nf fc p2 l2 i v us w) : sxV N a n ca fs gs ex fa nf fc p2 l2 i v us w' := by
  have hq : i = 7 ∨ i = 1 ∨ i = 3 ∨ 9 ≤ i ∨ Below w.heap.size w w' := by
    rcases hr.1 with e | e | h
    · subst e
      have h9 : i = 0 ∨ i = 1 ∨ i = 2 ∨ i = 3 ∨ i = 4 ∨ i = 5 ∨ i = 6 ∨ i = 7 ∨ i = 8 ∨ 9 ≤ i := by omega
      rcases h9 with rfl | rfl | rfl | rfl | rfl | rfl | rfl | rfl | rfl | h9
      all_goals first | omega | exact absurd (by decide) hk
    · subst e
      have h9 : i = 0 ∨ i = 1 ∨ i = 2 ∨ i = 3 ∨ i = 4 ∨ i = 5 ∨ i = 6 ∨ i = 7 ∨ i = 8 ∨ 9 ≤ i := by omega
      rcases h9 with rfl | rfl | rfl | rfl | rfl | rfl | rfl | rfl | rfl | h9
      all_goals first | omega | exact absurd (by decide) hk
    · exact .inr (.inr (.inr (.inr h)))
  unfold sxV at hv ⊢
  split at hv
  all_goals first
    | exact hv
    | (obtain ⟨g24, e, o24⟩ := hv; have hb : Below w.heap.size w w' := (by rcases hq with h | h | h | h | h; all_goals first | exact h | (exfalso; omega)); exact ⟨g24, e, owb hb o24⟩)
    | (obtain ⟨v26, e, o26⟩ := hv; have hb : Below w.heap.size w w' := (by rcases hq with h | h | h | h | h; all_goals first | exact h | (exfalso; omega)); exact ⟨v26, e, owfb hb o26⟩)
    | (obtain ⟨g28, e, k28⟩ := hv; have hb : Below w.heap.size w w' := (by rcases hq with h | h | h | h | h; all_goals first | exact h | (exfalso; omega)); exact ⟨g28, e, ⟨(hb.cell (cell_lt k28.1)).trans k28.1, (hb.cell (cell_lt k28.2)).trans k28.2⟩⟩)
    | (obtain ⟨a29, c29, e, h29⟩ := hv; have hb : Below w.heap.size w w' := (by rcases hq with h | h | h | h | h; all_goals first | exact h | (exfalso; omega)); exact ⟨a29, c29, e, h29.below hb⟩)
    | (obtain ⟨a30, c30, e, h30⟩ := hv; have hb : Below w.heap.size w w' := (by rcases hq with h | h | h | h | h; all_goals first | exact h | (exfalso; omega)); exact ⟨a30, c30, e, h30.below hb⟩)
    | (obtain ⟨B9, e, b9, x9⟩ := hv; exact ⟨B9, e, b9, hr.2 _ b9 x9⟩)
    | exact absurd rfl h8
def saV (N B8 B9 B10 : Nat) (x : Int) (p1 p2 ex bf : Bool) (a5 a9 a10 fa : Option Addr) (n1 c5 n2 c9 c10 nf fc : Nat) : Nat → Value → List Value → World → Prop
  | 0, v, _, _ => v = .bool true
  | 1, v, _, _ => v = .bool true
  | 2, v, _, _ => v = .agg #[.bool p1, .slice a5 n1 c5]
  | 3, v, _, _ => v = .int .u32 x
  | 4, v, _, _ => v = .bool true
  | 5, v, _, _ => v = .bool false
  | 6, v, _, _ => v = .bool false
  | 7, v, _, _ => v = .agg #[.bool p2, .slice a9 n2 c9]
  | 8, v, _, _ => v = .int .u32 x
  | 9, v, _, _ => v = .bool true
  | 10, v, _, _ => v = .bool true
  | 11, v, _, _ => v = .bool true
  | 12, v, _, _ => v = .bool true
  | 13, v, _, _ => v = .agg #[.bool p2, .slice a9 n2 c9]
  | 14, v, _, _ => v = .int .u32 x
  | 15, v, _, _ => v = .bool true
  | 16, v, _, _ => v = .agg #[.bool p1, .slice a5 n1 c5]
  | 17, v, _, _ => v = .int .u32 x
  | 18, v, _, _ => v = .bool true
  | 19, v, _, _ => v = .bool true
  | 20, v, _, _ => v = undef
  | 21, v, _, _ => v = undef
  | 22, v, _, _ => v = undef
  | 23, v, _, _ => v = .bool true
  | 24, v, _, _ => v = .bool true
  | 25, v, _, _ => v = .bool true
  | 26, v, _, _ => v = .bool true
  | 27, v, _, _ => v = .pointer (some ⟨B9, 0, none⟩)
  | 28, v, _, _ => v = .bool p2
  | 29, v, _, _ => v = .pointer (some ⟨B10, 0, none⟩)
  | 30, v, _, _ => v = .bool p2
  | 31, v, _, _ => v = .bool true
  | 32, v, _, _ => v = .bool true
  | 33, v, _, _ => v = .bool true
  | 34, v, _, _ => v = .pointer (some ⟨B9, 1, none⟩)
  | 35, v, _, _ => v = .slice a9 n2 c9
  | 36, v, _, _ => v = .pointer (some ⟨B10, 1, none⟩)
  | 37, v, _, _ => v = .slice a10 n2 c10
  | 38, v, _, _ => v = .bool true
  | 39, v, _, _ => v = .bool true
  | 40, v, _, _ => v = .bool true
  | _, _, _, _ => True
def saD : Nat → List Nat
  | 1 => [0]
  | 2 => [1]
  | 3 => [1]
  | 4 => [2, 3, 1]
  | 5 => [4, 1]
  | 6 => [5, 1]
  | 7 => [6]
  | 8 => [6]
  | 9 => [7, 8, 6]
  | 10 => [6, 9, 1]
  | 11 => [1, 10]
  | 12 => [11]
  | 13 => [12]
  | 14 => [12]
  | 15 => [13, 14, 12]
  | 16 => [12]
  | 17 => [12]
  | 18 => [16, 17, 12]
  | 19 => [18, 12]
  | 20 => [19]
  | 21 => [19]
  | 22 => [20, 21, 19]
  | 23 => [19, 22, 12]
  | 24 => [15, 23, 12]
  | 25 => [12, 24]
  | 26 => [25]
  | 27 => [26]
  | 28 => [27, 26]
  | 29 => [26]
  | 30 => [29, 26]
  | 31 => [28, 30, 26]
  | 32 => [26, 31]
  | 33 => [32]
  | 34 => [33]
  | 35 => [34, 33]
  | 36 => [33]
  | 37 => [36, 33]
  | 38 => [35, 37, 33]
  | 39 => [33, 38]
  | 40 => [39]
  | _ => []
def saN (i : Nat) : Bool := !([20, 21, 22] : List Nat).contains i
theorem sa_st (N B8 B9 B10 : Nat) (x : Int) (p1 p2 ex bf : Bool) (a5 a9 a10 fa : Option Addr) (n1 c5 n2 c9 c10 nf fc : Nat) {i : Nat} {v : Value} {us : List Value} {w w' : World}  (hr : True) (hv : saV N B8 B9 B10 x p1 p2 ex bf a5 a9 a10 fa n1 c5 n2 c9 c10 nf fc i v us w) : saV N B8 B9 B10 x p1 p2 ex bf a5 a9 a10 fa n1 c5 n2 c9 c10 nf fc i v us w' := by
  unfold saV at hv ⊢
  split at hv
  all_goals first
    | exact hv
def sbV (N B8 B9 B10 : Nat) (x : Int) (p1 p2 ex bf : Bool) (a5 a9 a10 fa : Option Addr) (n1 c5 n2 c9 c10 nf fc : Nat) : Nat → Value → List Value → World → Prop
  | 0, v, _, _ => v = .bool true
  | 1, v, _, _ => v = .bool true
  | 2, v, _, _ => v = .agg #[.bool p1, .slice a5 n1 c5]
  | 3, v, _, _ => v = .int .u32 x
  | 4, v, _, _ => v = .bool false
  | 5, v, _, _ => v = .bool true
  | 6, v, _, _ => v = .bool true
  | 7, v, _, _ => v = undef
  | 8, v, _, _ => v = undef
  | 9, v, _, _ => v = undef
  | 10, v, _, _ => v = .bool true
  | 11, v, _, _ => v = .bool true
  | 12, v, _, _ => v = .bool true
  | 13, v, _, _ => v = .agg #[.bool p2, .slice a9 n2 c9]
  | 14, v, _, _ => v = .int .u32 x
  | 15, v, _, _ => v = .bool bf
  | 16, v, _, _ => v = .agg #[.bool p1, .slice a5 n1 c5]
  | 17, v, _, _ => v = .int .u32 x
  | 18, v, _, _ => v = .bool false
  | 19, v, _, _ => v = .bool false
  | 20, v, _, _ => v = .agg #[.bool ex, .slice fa nf fc]
  | 21, v, _, _ => v = .int .u32 x
  | 22, v, _, _ => v = .bool bf
  | 23, v, _, _ => v = .bool bf
  | 24, v, _, _ => v = .bool true
  | 25, v, _, _ => v = .bool true
  | 26, v, _, _ => v = .bool true
  | 27, v, _, _ => v = .pointer (some ⟨B9, 0, none⟩)
  | 28, v, _, _ => v = .bool p2
  | 29, v, _, _ => v = .pointer (some ⟨B10, 0, none⟩)
  | 30, v, _, _ => v = .bool p2
  | 31, v, _, _ => v = .bool true
  | 32, v, _, _ => v = .bool true
  | 33, v, _, _ => v = .bool true
  | 34, v, _, _ => v = .pointer (some ⟨B9, 1, none⟩)
  | 35, v, _, _ => v = .slice a9 n2 c9
  | 36, v, _, _ => v = .pointer (some ⟨B10, 1, none⟩)
  | 37, v, _, _ => v = .slice a10 n2 c10
  | 38, v, _, _ => v = .bool true
  | 39, v, _, _ => v = .bool true
  | 40, v, _, _ => v = .bool true
  | _, _, _, _ => True
def sbD : Nat → List Nat
  | 1 => [0]
  | 2 => [1]
  | 3 => [1]
  | 4 => [2, 3, 1]
  | 5 => [4, 1]
  | 6 => [5, 1]
  | 7 => [6]
  | 8 => [6]
  | 9 => [7, 8, 6]
  | 10 => [6, 9, 1]
  | 11 => [1, 10]
  | 12 => [11]
  | 13 => [12]
  | 14 => [12]
  | 15 => [13, 14, 12]
  | 16 => [12]
  | 17 => [12]
  | 18 => [16, 17, 12]
  | 19 => [18, 12]
  | 20 => [19]
  | 21 => [19]
  | 22 => [20, 21, 19]
  | 23 => [19, 22, 12]
  | 24 => [15, 23, 12]
  | 25 => [12, 24]
  | 26 => [25]
  | 27 => [26]
  | 28 => [27, 26]
  | 29 => [26]
  | 30 => [29, 26]
  | 31 => [28, 30, 26]
  | 32 => [26, 31]
  | 33 => [32]
  | 34 => [33]
  | 35 => [34, 33]
  | 36 => [33]
  | 37 => [36, 33]
  | 38 => [35, 37, 33]
  | 39 => [33, 38]
  | 40 => [39]
  | _ => []
def sbN (i : Nat) : Bool := !([7, 8, 9] : List Nat).contains i
theorem sb_st (N B8 B9 B10 : Nat) (x : Int) (p1 p2 ex bf : Bool) (a5 a9 a10 fa : Option Addr) (n1 c5 n2 c9 c10 nf fc : Nat) {i : Nat} {v : Value} {us : List Value} {w w' : World}  (hr : True) (hv : sbV N B8 B9 B10 x p1 p2 ex bf a5 a9 a10 fa n1 c5 n2 c9 c10 nf fc i v us w) : sbV N B8 B9 B10 x p1 p2 ex bf a5 a9 a10 fa n1 c5 n2 c9 c10 nf fc i v us w' := by
  unfold sbV at hv ⊢
  split at hv
  all_goals first
    | exact hv
set_option linter.unusedSimpArgs false in
set_option maxRecDepth 100000 in
set_option maxHeartbeats 16000000 in
theorem walk (w : World) (a : Option Addr) (ca : Nat) (fs : List Flt) (sa : Fls w a fs) (na : fs.length ≤ 1125899906842624) (la : ∀ f ∈ fs, f.srcs.length ≤ 1125899906842624) (za : a = none → ca = 0) (f : Flt) (hff : FOk w f) (hf0 : f.srcs.length ≤ 1125899906842624) (x : Int) (hx : 0 ≤ x ∧ x ≤ 4294967295) :
    Calls Try.prog 3 #[.slice a fs.length ca, .agg #[.bool f.ex, f.sl], .int .u32 x] w fun e w' => e = .returned (.bool true) ∧ Below w.heap.size w w' := by
  obtain ⟨ex, srcs, fa, fc⟩ := f
  simp only [Flt.sl] at hff hf0 ⊢
  obtain ⟨n, hn⟩ : ∃ n, fs.length = n := ⟨_, rfl⟩
  have HN := Lib.hid hn
  rw [hn] at na ⊢
  have La := Lib.hid la
  have HZ := Lib.hid za
  have hb1 := bel1 w (.cells #[.bool ex, .slice fa srcs.length fc] 25)
  have p := filt_new w (.bool ex) (.slice fa srcs.length fc)
  have P0 := Lib.hid p
  have BB := Lib.hid hb1
  have Sa := Lib.hid (sa.below hb1)
  have SF := Lib.hid (hff.below hb1)
  clear hn sa la za hff hb1 p
  go_enter Try.func3, Try.ntmps3
  go_wp2_with fail
  generalize w.alloc (.cells #[.bool ex, .slice fa srcs.length fc] 25) = w1 at *
  obtain ⟨c0, c1⟩ := P0.out
  clear P0
  refine (sShown _).mono ?_
  rintro e w101 ⟨rfl, hb⟩
  have BB := Lib.hid (BB.out.trans (hb.mono BB.out.size))
  have Sa := Lib.hid (Sa.out.below hb)
  have SF := Lib.hid (SF.out.below hb)
  replace c0 := (hb.cell (cell_lt c0)).trans c0
  replace c1 := (hb.cell (cell_lt c1)).trans c1
  clear hb
  go_wp2_with fail
  refine (rFilters a n ca fs _ HN.out na La.out Sa.out).mono ?_
  rintro e w102 ⟨rfl, hb⟩
  have BB := Lib.hid (BB.out.trans (hb.mono BB.out.size))
  have Sa := Lib.hid (Sa.out.below hb)
  have SF := Lib.hid (SF.out.below hb)
  replace c0 := (hb.cell (cell_lt c0)).trans c0
  replace c1 := (hb.cell (cell_lt c1)).trans c1
  clear hb
  by_cases q1 : okF fs
  · rw [decide_eq_true q1]
    have HO := Lib.hid q1
    clear q1
    go_wp2_with fail
    have hbn := bel1 w102 (.cells #[.bool ex, .slice fa srcs.length fc] 25)
    have hfl : Fls (w102.alloc (.cells #[.bool ex, .slice fa srcs.length fc] 25)) (some ⟨w102.heap.size, 0, none⟩) [⟨ex, srcs, fa, fc⟩] := fls_box w102 ⟨ex, srcs, fa, fc⟩ SF.out
    have FB := Lib.hid hfl
    clear hfl
    have Sa := Lib.hid (Sa.out.below hbn)
    have SF := Lib.hid (SF.out.below hbn)
    have BB := Lib.hid (BB.out.trans (hbn.mono BB.out.size))
    replace c0 := (hbn.cell (cell_lt c0)).trans c0
    replace c1 := (hbn.cell (cell_lt c1)).trans c1
    clear hbn
    generalize w102.alloc (.cells #[.bool ex, .slice fa srcs.length fc] 25) = v2 at *
    refine (rFilters (some ⟨w102.heap.size, 0, none⟩) 1 1 [⟨ex, srcs, fa, fc⟩] _ rfl (by omega) (fun g hg => by rw [List.mem_singleton.1 hg]; exact hf0) FB.out).mono ?_
    rintro e w103 ⟨rfl, hb⟩
    have BB := Lib.hid (BB.out.trans (hb.mono BB.out.size))
    have Sa := Lib.hid (Sa.out.below hb)
    have SF := Lib.hid (SF.out.below hb)
    replace c0 := (hb.cell (cell_lt c0)).trans c0
    replace c1 := (hb.cell (cell_lt c1)).trans c1
    clear hb
    by_cases q2 : okF [⟨ex, srcs, fa, fc⟩]
    · rw [decide_eq_true q2]
      have hif : Inc srcs := q2.1 ⟨ex, srcs, fa, fc⟩ (List.mem_singleton.2 rfl)
      have hlf : srcs.length ≤ 400 := q2.few.2 ⟨ex, srcs, fa, fc⟩ (List.mem_singleton.2 rfl)
      have hn2 : n ≤ 200 := by have h1 := tot_len fs; have h2 := HO.out.2; have h3 := HN.out; omega
      have hgi : ∀ g ∈ fs ++ [⟨ex, srcs, fa, fc⟩], Inc g.srcs := fun g hg => by
        rcases List.mem_append.1 hg with k | k
        · exact HO.out.1 g k
        · rw [List.mem_singleton.1 k]; exact hif
      have hgf : FewF (fs ++ [⟨ex, srcs, fa, fc⟩]) := ⟨by rw [List.length_append, HN.out]; simp; omega, fun g hg => by
        rcases List.mem_append.1 hg with k | k
        · exact HO.out.few.2 g k
        · rw [List.mem_singleton.1 k]; exact hlf⟩
      have hgf2 : FewF ([⟨ex, srcs, fa, fc⟩] ++ fs) := ⟨by rw [List.length_append, HN.out]; simp; omega, fun g hg => by
        rcases List.mem_append.1 hg with k | k
        · rw [List.mem_singleton.1 k]; exact hlf
        · exact HO.out.few.2 g k⟩
      have hsw := flt_swap (f := ⟨ex, srcs, fa, fc⟩) HO.out.1 hif
      have hw1 := flt_wants HO.out.1 x
      have hw2 := flt_wants hgi x
      rw [List.any_append, ← hw1] at hw2
      have hl1 := flt_len HO.out.few
      have hl2 := flt_len hgf
      obtain ⟨⟨p1, l1⟩, h5⟩ : ∃ p, flt fs = p := ⟨_, rfl⟩
      obtain ⟨⟨p2, l2⟩, h6⟩ : ∃ p, flt (fs ++ [⟨ex, srcs, fa, fc⟩]) = p := ⟨_, rfl⟩
      rw [h5] at hw2 hl1
      rw [h6] at hw2 hl2 hsw
      replace hl1 : l1.length ≤ 160000 := hl1
      replace hl2 : l2.length ≤ 160000 := hl2
      obtain ⟨bf, hbf⟩ : ∃ bf, (decide (x ∈ srcs) != ex) = bf := ⟨_, rfl⟩
      obtain ⟨b1, hb1⟩ : ∃ b1, (decide (x ∈ l1) != p1) = b1 := ⟨_, rfl⟩
      replace hw2 : (decide (x ∈ l2) != p2) = (b1 || bf) := by rw [← hb1, ← hbf]; exact hw2.trans (by simp [wf])
      have HLF := Lib.hid hlf
      have HGF := Lib.hid hgf
      have HGF2 := Lib.hid hgf2
      have HFS := Lib.hid h5
      have HFL := Lib.hid h6
      have HSW := Lib.hid hsw
      have HL1 := Lib.hid hl1
      have HL2 := Lib.hid hl2
      have HWF := Lib.hid hbf
      have HW1 := Lib.hid hb1
      have HW2 := Lib.hid hw2
      clear q2 hif hlf hgi hgf hgf2 hsw hw1 hw2 hl1 hl2 h5 h6 hbf hb1 FB
      have hsf := sFilter a n ca fs w103 HN.out HO.out.few Sa.out
      rw [HFS.out] at hsf
      have HSF := Lib.hid hsf
      clear hsf
      go_wp2_with fail
      refine (HSF.out).mono ?_
      rintro e w104 ⟨⟨a5, c5, rfl, hA5, -⟩, hb⟩
      have BB := Lib.hid (BB.out.trans (hb.mono BB.out.size))
      have Sa := Lib.hid (Sa.out.below hb)
      have SF := Lib.hid (SF.out.below hb)
      replace c0 := (hb.cell (cell_lt c0)).trans c0
      replace c1 := (hb.cell (cell_lt c1)).trans c1
      clear hb
      have A5 := Lib.hid hA5
      clear hA5 HSF
      simp only []
      have hbn := bel1 w104 (.cells #[.bool p1, .slice a5 l1.length c5] 25)
      obtain ⟨u0, u1⟩ := filt_new w104 (.bool p1) (.slice a5 l1.length c5)
      have Sa := Lib.hid (Sa.out.below hbn)
      have SF := Lib.hid (SF.out.below hbn)
      have A5 := Lib.hid (A5.out.below hbn)
      have BB := Lib.hid (BB.out.trans (hbn.mono BB.out.size))
      replace c0 := (hbn.cell (cell_lt c0)).trans c0
      replace c1 := (hbn.cell (cell_lt c1)).trans c1
      clear hbn
      go_wp2_with fail
      generalize w104.alloc (.cells #[.bool p1, .slice a5 l1.length c5] 25) = v5 at *
      have K0 := Lib.hid c0
      have K1 := Lib.hid c1
      have hgo : ∀ g ∈ fs ++ [⟨ex, srcs, fa, fc⟩], FOk v5 g := fun g hg => by
        rcases List.mem_append.1 hg with k | k
        · exact fls_mem Sa.out k
        · rw [List.mem_singleton.1 k]; exact SF.out
      have HGO := Lib.hid hgo
      clear hgo
      refine wp_region_each5 (sxV v5.heap.size a n ca fs (fs ++ [⟨ex, srcs, fa, fc⟩]) ex fa srcs.length fc p2 l2) (fun W => Below v5.heap.size v5 W) (sxR v5.heap.size) sxD sxK [24, 25, 26, 27, 28, 29, 30, 9] (by kernel_rfl) (by kernel_rfl) (by kernel_rfl) (by kernel_rfl) (by kernel_rfl) (Below.refl _ v5).drew ?hst
        ⟨?_, ?_, ?_, ?_, ?_, ?_, ?_, ?_, ?_, trivial⟩ ?hend
      case hst =>
        intro i j oi oj v us A B hoi hoj hij hw hK hSA hr hv
        refine sx_st _ _ _ _ _ _ _ _ _ _ _ _ hij hK ?_ ?_ hr hv
        · rintro ⟨rfl, rfl⟩
          cases hoi
          exact absurd hw (by decide)
        · rintro rfl
          cases hoi
          have h9 : j < 9 := (Array.getElem?_eq_some_iff.1 hoj).1
          have hc : j = 0 ∨ j = 1 ∨ j = 2 ∨ j = 3 ∨ j = 4 ∨ j = 5 ∨ j = 6 ∨ j = 7 ∨ j = 8 := by omega
          rcases hc with rfl | rfl | rfl | rfl | rfl | rfl | rfl | rfl | rfl
          all_goals first | exact absurd rfl hij | exact absurd hw (by decide)
      case refine_1 =>
        intro a' w9 hS h0 hd
        refine Does2.value (.slice (some ⟨w9.heap.size, 0, none⟩) 0 0) (w' := w9.alloc (.cells #[] 25)) ?_ ⟨⟨_, rfl, own_mt w9 _ _ _ hS.size⟩, hS.alloc hS.size _, sxR_below (bel1 w9 _)⟩
        clear hS h0 hd
        go_simp
      case refine_2 =>
        intro a' w9 hS h0 hd
        have e0 : a'.tmps[0]?.getD undef = .slice a n ca := evG (h0 0 (by kernel_rfl))
        refine Does2.value (.slice a n ca) (w' := w9) ?_ ⟨rfl, hS, sxR_below (Below.refl _ _)⟩
        clear hS h0 hd
        go_simp
      case refine_3 =>
        intro a' w9 hS h0 hd
        obtain ⟨g24, e24, o24⟩ := hd 0 List.mem_cons_self
        replace e24 := evG e24
        have e25 : a'.tmps[25]?.getD undef = .slice a n ca := evG (hd 1 (List.mem_cons_of_mem _ List.mem_cons_self))
        obtain ⟨v8, w8, hr8, ho8, hb8⟩ := app_first (w := w9) 22 o24 HN.out (by omega) (Sa.out.below hS) HZ.out hS.size
        refine Does2.append (s := .tmp 24) (x := .tmp 25) (t := 22) rfl (v := .slice (some ⟨g24, 0, none⟩) 0 0) (xv := .slice a n ca) (by simp [Act.eval, e24]) (by simp [Act.eval, e25]) hr8 ⟨⟨_, rfl, ho8⟩, hS.trans (hb8.mono hS.size), sxR_below hb8⟩
      case refine_4 =>
        intro a' w9 hS h0 hd
        have e4 : a'.tmps[4]?.getD undef = .pointer (some ⟨w.heap.size, 0, none⟩) := evG (h0 4 (by kernel_rfl))
        have d0 := (hS.cell (cell_lt K0.out)).trans K0.out
        have d1 := (hS.cell (cell_lt K1.out)).trans K1.out
        refine Does2.value (.agg #[.bool ex, .slice fa srcs.length fc]) (w' := w9) ?_ ⟨rfl, hS, sxR_below (Below.refl _ _)⟩
        clear hS h0 hd
        go_simp
      case refine_5 =>
        intro a' w9 hS h0 hd
        have e27 : a'.tmps[27]?.getD undef = .agg #[.bool ex, .slice fa srcs.length fc] := evG (hd 3 List.mem_cons_self)
        obtain ⟨k0, k1⟩ := filt_new w9 (.bool ex) (.slice fa srcs.length fc)
        refine Does2.value (.slice (some ⟨w9.heap.size, 0, none⟩) 1 1) (w' := w9.alloc (.cells #[.bool ex, .slice fa srcs.length fc] 25)) ?_ ⟨⟨_, rfl, k0, k1⟩, hS.alloc hS.size _, sxR_below (bel1 w9 _)⟩
        clear hS h0 hd k0 k1
        go_simp
      case refine_6 =>
        intro a' w9 hS h0 hd
        obtain ⟨v26, e26, o26⟩ := hd 2 List.mem_cons_self
        replace e26 := evG e26
        obtain ⟨g28, e28, k28⟩ := hd 4 (List.mem_cons_of_mem _ List.mem_cons_self)
        replace e28 := evG e28
        obtain ⟨a8, c8, w8, hr8, ho8, hb8, hx8⟩ := app_next (w := w9) (f := ⟨ex, srcs, fa, fc⟩) (g4 := g28) 22 o26 (by rw [HN.out]; omega) (two_cells k28.1 k28.2) hS.size
        rw [HN.out] at hr8 ho8
        have hf8 := own_fls ho8 (by rw [List.length_append, HN.out]; rfl) (fun g hg => (HGO.out g hg).below (hS.trans hb8))
        refine Does2.append (s := .tmp 26) (x := .tmp 28) (t := 22) rfl (v := v26) (xv := .slice (some ⟨g28, 0, none⟩) 1 1) (by simp [Act.eval, e26]) (by simp [Act.eval, e28]) hr8 ⟨⟨_, _, rfl, hf8⟩, hS.trans hb8, ⟨.inl rfl, fun D _ hD => hx8 D hD⟩⟩
      case refine_7 =>
        intro a' w9 hS h0 hd
        obtain ⟨a29, c29, e29, h29⟩ := hd 5 List.mem_cons_self
        replace e29 := evG e29
        refine Does2.call 13 #[.slice a29 (n + 1) c29] (w' := w9) ?_ ((sFilter a29 (n + 1) c29 (fs ++ [⟨ex, srcs, fa, fc⟩]) w9 (by rw [List.length_append, HN.out]; rfl) HGF.out h29).mono ?_)
        · clear hS h0 hd h29
          go_simp
        · rw [HFL.out]
          rintro e w8 ⟨⟨a8, c8, rfl, hA8, hf8⟩, hb⟩
          exact ⟨_, rfl, ⟨a8, c8, rfl, hA8⟩, hS.trans (hb.mono hS.size), sxR_below hb⟩
      case refine_8 =>
        intro a' w9 hS h0 hd
        refine Does2.value (.pointer (some ⟨w9.heap.size, 0, none⟩)) (w' := w9.alloc (.cells #[.bool false, .slice none 0 0] 25)) ?_ ⟨⟨_, rfl, hS.size, ⟨_, _, _, _, Go.Deep.blk_alloc_new _ _⟩⟩, hS.alloc hS.size _, sxR_below (bel1 w9 _)⟩
        clear hS h0 hd
        go_simp
      case refine_9 =>
        intro a' w9 hS h0 hd
        obtain ⟨B9, e9, b9, x9⟩ := hd 7 List.mem_cons_self
        replace e9 := evG e9
        obtain ⟨a30, c30, e30, h30⟩ := hd 6 (List.mem_cons_of_mem _ List.mem_cons_self)
        replace e30 := evG e30
        obtain ⟨b', x', y', z', hbx⟩ := x9
        obtain ⟨hc0, hc1, hf0, hf1⟩ := FBx.cells hbx
        have hset := fR_set (N := v5.heap.size) (J := 8) hbx ⟨b', x', y', z', hbx⟩ p2 a30 l2.length c30
        refine Does2.skip (w' := (w9.setCell ⟨B9, 0, none⟩ (.bool p2)).setCell ⟨B9, 1, none⟩ (.slice a30 l2.length c30)) ?_ ⟨⟨B9, a30, c30, ?_, b9, FBx.set hbx _ _, h30.ftm hset.2.1⟩, (hS.setCell (p := ⟨B9, 0, none⟩) b9 _).setCell (p := ⟨B9, 1, none⟩) b9 _, ⟨.inr (.inl rfl), hset.2.2⟩⟩
        · clear hS h0 hd h30 hbx hset
          go_simp
        · have q5 : a'.eval (.tmp 9) = .pointer (some ⟨B9, 0, none⟩) := by simp [Act.eval, e9]
          have q6 : a'.eval (.tmp 30) = .agg #[.bool p2, .slice a30 l2.length c30] := by simp [Act.eval, e30]
          show [a'.eval (.tmp 9), a'.eval (.tmp 30)] = _
          rw [q5, q6]
      case hend =>
        intro f w6 hS hv
        obtain ⟨B9, v9, b9, x9⟩ : ∃ (B9 : Nat), f 9 = .pointer (some ⟨B9, 0, none⟩) ∧ True ∧ True := by
          obtain ⟨B, a30, c30, hu, -⟩ := hv 8 (by decide) (by decide)
          replace hu : [f 9, f 30] = [.pointer (some ⟨B, 0, none⟩), .agg #[.bool p2, .slice a30 l2.length c30]] := hu
          simp only [List.cons.injEq, and_true] at hu
          exact ⟨B, hu.1, trivial, trivial⟩
        obtain ⟨B, a9, c9, hu, hB9, hbx, hA9⟩ := hv 8 (by decide) (by decide)
        replace hu : [f 9, f 30] = [.pointer (some ⟨B, 0, none⟩), .agg #[.bool p2, .slice a9 l2.length c9]] := hu
        simp only [List.cons.injEq, and_true] at hu
        have hu1 := hu.1
        rw [v9] at hu1
        cases hu1
        obtain ⟨i0', i1', -, -⟩ := FBx.cells hbx
        have I0 := Lib.hid i0'
        have I1 := Lib.hid i1'
        have A9 := Lib.hid hA9
        simp only [putAll, Act.put, List.setIfInBounds_toArray, List.set_cons_zero, List.set_cons_succ, v9]
        clear hv hu v9 b9 x9 hbx hA9 i0' i1' HGO K0 K1
        have BB := Lib.hid (BB.out.trans (hS.mono BB.out.size))
        have Sa := Lib.hid (Sa.out.below hS)
        have SF := Lib.hid (SF.out.below hS)
        have A5 := Lib.hid (A5.out.below hS)
        replace c0 := (hS.cell (cell_lt c0)).trans c0
        replace c1 := (hS.cell (cell_lt c1)).trans c1
        replace u0 := (hS.cell (cell_lt u0)).trans u0
        replace u1 := (hS.cell (cell_lt u1)).trans u1
        clear hS
        have i0 := I0.out
        have i1 := I1.out
        clear I0 I1
        obtain ⟨i00, hi00, hz00, hz01, hz02⟩ := info_parts infoF
        have HNC : Hid (a = none → n = 0) := Lib.hid (fun e => by subst e; have h1 := HN.out; rcases Sa.out with h2 | ⟨b, off, h2, _⟩; (rw [h2] at h1; simpa using h1.symm); cases h2)
        go_wp2_with ((have hown0 := own_box w6 (.bool ex) (.slice fa srcs.length fc); have hbo := bel1 w6 (.cells #[.bool ex, .slice fa srcs.length fc] 25); refine wpList_app_row rfl 22 25 i00 _ 2 32 Try.underlying22 hi00 hz00 hz01 hz02 rfl (by decide) (by omega) (.tmp 32) (.tmp 33) rfl w6.heap.size _ 1 [.bool ex, .slice fa srcs.length fc] rfl hown0 a n ca (fv fs) rfl (by rw [fv_len, HN.out]) (fls_src (Sa.out.below hbo)) (fv_one fs) (fun e => by have h1 := HZ.out e; exact ⟨by have := HNC.out e; omega, h1⟩) (by omega) (by simp) ?_; intro a7 cap7 w7 hown7 hg7; have hgb7 := grown_below hown0 hg7.out (by simp); have HG7 := Lib.hid (hbo.trans hgb7); have HO7 := Lib.hid hown7.out; clear hown0 hbo hgb7))
        have hg7' := HG7.out
        have BB := Lib.hid (BB.out.trans (hg7'.mono BB.out.size))
        have Sa := Lib.hid (Sa.out.below hg7')
        have SF := Lib.hid (SF.out.below hg7')
        have A5 := Lib.hid (A5.out.below hg7')
        have A9 := Lib.hid (A9.out.below hg7')
        replace c0 := (hg7'.cell (cell_lt c0)).trans c0
        replace c1 := (hg7'.cell (cell_lt c1)).trans c1
        replace u0 := (hg7'.cell (cell_lt u0)).trans u0
        replace u1 := (hg7'.cell (cell_lt u1)).trans u1
        replace i0 := (hg7'.cell (cell_lt i0)).trans i0
        replace i1 := (hg7'.cell (cell_lt i1)).trans i1
        clear hg7'
        have hf7 := own_fls (show w7.ownsRow _ 25 2 (.slice a7 (1 + n) cap7) (1 + n) (fv ([⟨ex, srcs, fa, fc⟩] ++ fs)) from HO7.out) (by rw [List.length_append, HN.out]; rfl) (fun g hg => by
          rcases List.mem_append.1 hg with k | k
          · rw [List.mem_singleton.1 k]; exact SF.out
          · exact fls_mem Sa.out k)
        have hsf := sFilter a7 (1 + n) cap7 ([⟨ex, srcs, fa, fc⟩] ++ fs) w7 (by rw [List.length_append, HN.out]; rfl) HGF2.out hf7
        rw [HSW.out] at hsf
        have HSF := Lib.hid hsf
        clear hsf hf7 HO7
        refine (HSF.out).mono ?_
        rintro e w105 ⟨⟨a10, c10, rfl, hA10, -⟩, hb⟩
        have BB := Lib.hid (BB.out.trans (hb.mono BB.out.size))
        have Sa := Lib.hid (Sa.out.below hb)
        have SF := Lib.hid (SF.out.below hb)
        have A5 := Lib.hid (A5.out.below hb)
        have A9 := Lib.hid (A9.out.below hb)
        replace c0 := (hb.cell (cell_lt c0)).trans c0
        replace c1 := (hb.cell (cell_lt c1)).trans c1
        replace u0 := (hb.cell (cell_lt u0)).trans u0
        replace u1 := (hb.cell (cell_lt u1)).trans u1
        replace i0 := (hb.cell (cell_lt i0)).trans i0
        replace i1 := (hb.cell (cell_lt i1)).trans i1
        clear hb
        have A10 := Lib.hid hA10
        clear hA10 HSF
        simp only []
        have hbn := bel1 w105 (.cells #[.bool p2, .slice a10 l2.length c10] 25)
        obtain ⟨o0, o1⟩ := filt_new w105 (.bool p2) (.slice a10 l2.length c10)
        have Sa := Lib.hid (Sa.out.below hbn)
        have SF := Lib.hid (SF.out.below hbn)
        have A5 := Lib.hid (A5.out.below hbn)
        have A9 := Lib.hid (A9.out.below hbn)
        have A10 := Lib.hid (A10.out.below hbn)
        have BB := Lib.hid (BB.out.trans (hbn.mono BB.out.size))
        replace c0 := (hbn.cell (cell_lt c0)).trans c0
        replace c1 := (hbn.cell (cell_lt c1)).trans c1
        replace u0 := (hbn.cell (cell_lt u0)).trans u0
        replace u1 := (hbn.cell (cell_lt u1)).trans u1
        replace i0 := (hbn.cell (cell_lt i0)).trans i0
        replace i1 := (hbn.cell (cell_lt i1)).trans i1
        clear hbn
        go_wp2_with fail
        generalize w105.alloc (.cells #[.bool p2, .slice a10 l2.length c10] 25) = v7 at *
        have K0 := Lib.hid c0
        have K1 := Lib.hid c1
        have U0 := Lib.hid u0
        have U1 := Lib.hid u1
        have I0 := Lib.hid i0
        have I1 := Lib.hid i1
        have O0 := Lib.hid o0
        have O1 := Lib.hid o1
        cases b1
        · replace HW2 : Hid ((decide (x ∈ l2) != p2) = bf) := Lib.hid (by simpa using HW2.out)
          refine wp_region_each4 (sbV w.heap.size w104.heap.size B9 w105.heap.size x p1 p2 ex bf a5 a9 a10 fa l1.length c5 l2.length c9 c10 srcs.length fc) (fun W => Below v7.heap.size v7 W) (fun _ A B => Below A.heap.size A B) sbD sbN [36, 37, 38, 39, 40, 41, 42, 43, 44, 45, 46, 47, 48, 49, 50, 51, 52, 53, 54, 55, 56, 57, 58, 59, 60, 61, 62, 63, 64, 65, 66, 67, 68, 69, 70, 71, 72, 73, 74, 75, 6] (by kernel_rfl) (by kernel_rfl) (by kernel_rfl) (Below.refl _ v7).drew
            (fun i j oi oj v us A B hoi hoj hij hw hSA hr hv => sb_st _ _ _ _ _ _ _ _ _ _ _ _ _ _ _ _ _ _ _ _ trivial hv) ?hgd ?hng ?hsk
            ⟨?_, ?_, ?_, ?_, ?_, ?_, ?_, ?_, ?_, ?_, ?_, ?_, ?_, ?_, ?_, ?_, ?_, ?_, ?_, ?_, ?_, ?_, ?_, ?_, ?_, ?_, ?_, ?_, ?_, ?_, ?_, ?_, ?_, ?_, ?_, ?_, ?_, ?_, ?_, ?_, ?_, trivial⟩ ?hend
          case hgd =>
            intro i o g b hoi hog v us w hv
            have hi : i < 41 := (Array.getElem?_eq_some_iff.1 hoi).1
            have hc : i = 0 ∨ i = 1 ∨ i = 2 ∨ i = 3 ∨ i = 4 ∨ i = 5 ∨ i = 6 ∨ i = 7 ∨ i = 8 ∨ i = 9 ∨ i = 10 ∨ i = 11 ∨ i = 12 ∨ i = 13 ∨ i = 14 ∨ i = 15 ∨ i = 16 ∨ i = 17 ∨ i = 18 ∨ i = 19 ∨ i = 20 ∨ i = 21 ∨ i = 22 ∨ i = 23 ∨ i = 24 ∨ i = 25 ∨ i = 26 ∨ i = 27 ∨ i = 28 ∨ i = 29 ∨ i = 30 ∨ i = 31 ∨ i = 32 ∨ i = 33 ∨ i = 34 ∨ i = 35 ∨ i = 36 ∨ i = 37 ∨ i = 38 ∨ i = 39 ∨ i = 40 := by omega
            rcases hc with rfl | rfl | rfl | rfl | rfl | rfl | rfl | rfl | rfl | rfl | rfl | rfl | rfl | rfl | rfl | rfl | rfl | rfl | rfl | rfl | rfl | rfl | rfl | rfl | rfl | rfl | rfl | rfl | rfl | rfl | rfl | rfl | rfl | rfl | rfl | rfl | rfl | rfl | rfl | rfl | rfl
            · cases hoi; cases hog
            · cases hoi; cases hog
            · cases hoi; cases hog; exact hv
            · cases hoi; cases hog; exact hv
            · cases hoi; cases hog; exact hv
            · cases hoi; cases hog; exact hv
            · cases hoi; cases hog; exact hv
            · cases hoi; cases hog
              show v ≠ _
              rw [show v = _ from hv]
              intro e; cases e
            · cases hoi; cases hog
              show v ≠ _
              rw [show v = _ from hv]
              intro e; cases e
            · cases hoi; cases hog
              show v ≠ _
              rw [show v = _ from hv]
              intro e; cases e
            · cases hoi; cases hog; exact hv
            · cases hoi; cases hog
            · cases hoi; cases hog
            · cases hoi; cases hog; exact hv
            · cases hoi; cases hog; exact hv
            · cases hoi; cases hog; exact hv
            · cases hoi; cases hog; exact hv
            · cases hoi; cases hog; exact hv
            · cases hoi; cases hog; exact hv
            · cases hoi; cases hog; exact hv
            · cases hoi; cases hog; exact hv
            · cases hoi; cases hog; exact hv
            · cases hoi; cases hog; exact hv
            · cases hoi; cases hog; exact hv
            · cases hoi; cases hog; exact hv
            · cases hoi; cases hog
            · cases hoi; cases hog
            · cases hoi; cases hog; exact hv
            · cases hoi; cases hog; exact hv
            · cases hoi; cases hog; exact hv
            · cases hoi; cases hog; exact hv
            · cases hoi; cases hog; exact hv
            · cases hoi; cases hog
            · cases hoi; cases hog
            · cases hoi; cases hog; exact hv
            · cases hoi; cases hog; exact hv
            · cases hoi; cases hog; exact hv
            · cases hoi; cases hog; exact hv
            · cases hoi; cases hog; exact hv
            · cases hoi; cases hog
            · cases hoi; cases hog
          case hng =>
            intro i o hoi hr
            have hi : i < 41 := (Array.getElem?_eq_some_iff.1 hoi).1
            have hc : i = 0 ∨ i = 1 ∨ i = 2 ∨ i = 3 ∨ i = 4 ∨ i = 5 ∨ i = 6 ∨ i = 7 ∨ i = 8 ∨ i = 9 ∨ i = 10 ∨ i = 11 ∨ i = 12 ∨ i = 13 ∨ i = 14 ∨ i = 15 ∨ i = 16 ∨ i = 17 ∨ i = 18 ∨ i = 19 ∨ i = 20 ∨ i = 21 ∨ i = 22 ∨ i = 23 ∨ i = 24 ∨ i = 25 ∨ i = 26 ∨ i = 27 ∨ i = 28 ∨ i = 29 ∨ i = 30 ∨ i = 31 ∨ i = 32 ∨ i = 33 ∨ i = 34 ∨ i = 35 ∨ i = 36 ∨ i = 37 ∨ i = 38 ∨ i = 39 ∨ i = 40 := by omega
            rcases hc with rfl | rfl | rfl | rfl | rfl | rfl | rfl | rfl | rfl | rfl | rfl | rfl | rfl | rfl | rfl | rfl | rfl | rfl | rfl | rfl | rfl | rfl | rfl | rfl | rfl | rfl | rfl | rfl | rfl | rfl | rfl | rfl | rfl | rfl | rfl | rfl | rfl | rfl | rfl | rfl | rfl
            · exact absurd hr (by decide)
            · exact absurd hr (by decide)
            · exact absurd hr (by decide)
            · exact absurd hr (by decide)
            · exact absurd hr (by decide)
            · exact absurd hr (by decide)
            · exact absurd hr (by decide)
            · cases hoi; exact ⟨_, _, rfl⟩
            · cases hoi; exact ⟨_, _, rfl⟩
            · cases hoi; exact ⟨_, _, rfl⟩
            · exact absurd hr (by decide)
            · exact absurd hr (by decide)
            · exact absurd hr (by decide)
            · exact absurd hr (by decide)
            · exact absurd hr (by decide)
            · exact absurd hr (by decide)
            · exact absurd hr (by decide)
            · exact absurd hr (by decide)
            · exact absurd hr (by decide)
            · exact absurd hr (by decide)
            · exact absurd hr (by decide)
            · exact absurd hr (by decide)
            · exact absurd hr (by decide)
            · exact absurd hr (by decide)
            · exact absurd hr (by decide)
            · exact absurd hr (by decide)
            · exact absurd hr (by decide)
            · exact absurd hr (by decide)
            · exact absurd hr (by decide)
            · exact absurd hr (by decide)
            · exact absurd hr (by decide)
            · exact absurd hr (by decide)
            · exact absurd hr (by decide)
            · exact absurd hr (by decide)
            · exact absurd hr (by decide)
            · exact absurd hr (by decide)
            · exact absurd hr (by decide)
            · exact absurd hr (by decide)
            · exact absurd hr (by decide)
            · exact absurd hr (by decide)
            · exact absurd hr (by decide)
          case hsk =>
            intro i us w hr hS
            by_cases hi : i < 41
            · have hc : i = 0 ∨ i = 1 ∨ i = 2 ∨ i = 3 ∨ i = 4 ∨ i = 5 ∨ i = 6 ∨ i = 7 ∨ i = 8 ∨ i = 9 ∨ i = 10 ∨ i = 11 ∨ i = 12 ∨ i = 13 ∨ i = 14 ∨ i = 15 ∨ i = 16 ∨ i = 17 ∨ i = 18 ∨ i = 19 ∨ i = 20 ∨ i = 21 ∨ i = 22 ∨ i = 23 ∨ i = 24 ∨ i = 25 ∨ i = 26 ∨ i = 27 ∨ i = 28 ∨ i = 29 ∨ i = 30 ∨ i = 31 ∨ i = 32 ∨ i = 33 ∨ i = 34 ∨ i = 35 ∨ i = 36 ∨ i = 37 ∨ i = 38 ∨ i = 39 ∨ i = 40 := by omega
              rcases hc with rfl | rfl | rfl | rfl | rfl | rfl | rfl | rfl | rfl | rfl | rfl | rfl | rfl | rfl | rfl | rfl | rfl | rfl | rfl | rfl | rfl | rfl | rfl | rfl | rfl | rfl | rfl | rfl | rfl | rfl | rfl | rfl | rfl | rfl | rfl | rfl | rfl | rfl | rfl | rfl | rfl
              · exact absurd hr (by decide)
              · exact absurd hr (by decide)
              · exact absurd hr (by decide)
              · exact absurd hr (by decide)
              · exact absurd hr (by decide)
              · exact absurd hr (by decide)
              · exact absurd hr (by decide)
              · exact rfl
              · exact rfl
              · exact rfl
              · exact absurd hr (by decide)
              · exact absurd hr (by decide)
              · exact absurd hr (by decide)
              · exact absurd hr (by decide)
              · exact absurd hr (by decide)
              · exact absurd hr (by decide)
              · exact absurd hr (by decide)
              · exact absurd hr (by decide)
              · exact absurd hr (by decide)
              · exact absurd hr (by decide)
              · exact absurd hr (by decide)
              · exact absurd hr (by decide)
              · exact absurd hr (by decide)
              · exact absurd hr (by decide)
              · exact absurd hr (by decide)
              · exact absurd hr (by decide)
              · exact absurd hr (by decide)
              · exact absurd hr (by decide)
              · exact absurd hr (by decide)
              · exact absurd hr (by decide)
              · exact absurd hr (by decide)
              · exact absurd hr (by decide)
              · exact absurd hr (by decide)
              · exact absurd hr (by decide)
              · exact absurd hr (by decide)
              · exact absurd hr (by decide)
              · exact absurd hr (by decide)
              · exact absurd hr (by decide)
              · exact absurd hr (by decide)
              · exact absurd hr (by decide)
              · exact absurd hr (by decide)
            · exact absurd hr (by rw [show sbN i = true from by unfold sbN; simp; omega]; decide)
          case refine_1 =>
            intro hrun a' w9 hS h0 hd
            have e7 : a'.tmps[7]?.getD undef = .bool true := evG (h0 7 (by kernel_rfl))
            refine Does2.value (.bool true) (w' := w9) ?_ ⟨rfl, hS, Below.refl _ _⟩
            clear hS h0 hd hrun
            go_simp
          case refine_2 =>
            intro hrun a' w9 hS h0 hd
            have e36 : a'.tmps[36]?.getD undef = .bool true := evG (hd 0 List.mem_cons_self)
            refine Does2.value (.bool true) (w' := w9) ?_ ⟨rfl, hS, Below.refl _ _⟩
            clear hS h0 hd hrun
            go_simp
          case refine_3 =>
            intro hrun a' w9 hS h0 hd
            have e8 : a'.tmps[8]?.getD undef = .pointer (some ⟨w104.heap.size, 0, none⟩) := evG (h0 8 (by kernel_rfl))
            have d0 := (hS.cell (cell_lt U0.out)).trans U0.out
            have d1 := (hS.cell (cell_lt U1.out)).trans U1.out
            refine Does2.value (.agg #[.bool p1, .slice a5 l1.length c5]) (w' := w9) ?_ ⟨rfl, hS, Below.refl _ _⟩
            clear hS h0 hd hrun
            go_simp
          case refine_4 =>
            intro hrun a' w9 hS h0 hd
            have e2 : a'.tmps[2]?.getD undef = .int .u32 x := evG (h0 2 (by kernel_rfl))
            refine Does2.value (.int .u32 x) (w' := w9) ?_ ⟨rfl, hS, Below.refl _ _⟩
            clear hS h0 hd hrun
            go_simp
          case refine_5 =>
            intro hrun a' w9 hS h0 hd
            have e38 : a'.tmps[38]?.getD undef = .agg #[.bool p1, .slice a5 l1.length c5] := evG (hd 2 List.mem_cons_self)
            have e39 : a'.tmps[39]?.getD undef = .int .u32 x := evG (hd 3 (List.mem_cons_of_mem _ List.mem_cons_self))
            refine Does2.call 14 #[.agg #[.bool p1, .slice a5 l1.length c5], .int .u32 x] (w' := w9) ?_ ((sWants p1 a5 _ c5 l1 x w9 rfl (by have := HL1.out; omega) (A5.out.below hS)).mono ?_)
            · clear hS h0 hd
              go_simp
            · rw [HW1.out]
              rintro e w8 ⟨rfl, hb⟩
              exact ⟨_, rfl, rfl, hS.trans (hb.mono hS.size), hb⟩
          case refine_6 =>
            intro hrun a' w9 hS h0 hd
            have e40 : a'.tmps[40]?.getD undef = .bool false := evG (hd 4 List.mem_cons_self)
            refine Does2.value (.bool true) (w' := w9) ?_ ⟨rfl, hS, Below.refl _ _⟩
            clear hS h0 hd hrun
            go_simp
          case refine_7 =>
            intro hrun a' w9 hS h0 hd
            have e41 : a'.tmps[41]?.getD undef = .bool true := evG (hd 5 List.mem_cons_self)
            refine Does2.value (.bool true) (w' := w9) ?_ ⟨rfl, hS, Below.refl _ _⟩
            clear hS h0 hd hrun
            go_simp
          case refine_8 =>
            intro hrun a' w9 hS h0 hd
            exact absurd hrun (by decide)
          case refine_9 =>
            intro hrun a' w9 hS h0 hd
            exact absurd hrun (by decide)
          case refine_10 =>
            intro hrun a' w9 hS h0 hd
            exact absurd hrun (by decide)
          case refine_11 =>
            intro hrun a' w9 hS h0 hd
            have e42 : a'.tmps[42]?.getD undef = .bool true := evG (hd 6 List.mem_cons_self)
            have e45 : a'.tmps[45]?.getD undef = undef := evG (hd 9 (List.mem_cons_of_mem _ List.mem_cons_self))
            refine Does2.value (.bool true) (w' := w9) ?_ ⟨rfl, hS, Below.refl _ _⟩
            clear hS h0 hd hrun
            go_simp
          case refine_12 =>
            intro hrun a' w9 hS h0 hd
            have e37 : a'.tmps[37]?.getD undef = .bool true := evG (hd 1 List.mem_cons_self)
            have e46 : a'.tmps[46]?.getD undef = .bool true := evG (hd 10 (List.mem_cons_of_mem _ List.mem_cons_self))
            refine Does2.value (.bool true) (w' := w9) ?_ ⟨rfl, hS, Below.refl _ _⟩
            clear hS h0 hd hrun
            go_simp
          case refine_13 =>
            intro hrun a' w9 hS h0 hd
            have e47 : a'.tmps[47]?.getD undef = .bool true := evG (hd 11 List.mem_cons_self)
            refine Does2.value (.bool true) (w' := w9) ?_ ⟨rfl, hS, Below.refl _ _⟩
            clear hS h0 hd hrun
            go_simp
          case refine_14 =>
            intro hrun a' w9 hS h0 hd
            have e9 : a'.tmps[9]?.getD undef = .pointer (some ⟨B9, 0, none⟩) := evG (h0 9 (by kernel_rfl))
            have d0 := (hS.cell (cell_lt I0.out)).trans I0.out
            have d1 := (hS.cell (cell_lt I1.out)).trans I1.out
            refine Does2.value (.agg #[.bool p2, .slice a9 l2.length c9]) (w' := w9) ?_ ⟨rfl, hS, Below.refl _ _⟩
            clear hS h0 hd hrun
            go_simp
          case refine_15 =>
            intro hrun a' w9 hS h0 hd
            have e2 : a'.tmps[2]?.getD undef = .int .u32 x := evG (h0 2 (by kernel_rfl))
            refine Does2.value (.int .u32 x) (w' := w9) ?_ ⟨rfl, hS, Below.refl _ _⟩
            clear hS h0 hd hrun
            go_simp
          case refine_16 =>
            intro hrun a' w9 hS h0 hd
            have e49 : a'.tmps[49]?.getD undef = .agg #[.bool p2, .slice a9 l2.length c9] := evG (hd 13 List.mem_cons_self)
            have e50 : a'.tmps[50]?.getD undef = .int .u32 x := evG (hd 14 (List.mem_cons_of_mem _ List.mem_cons_self))
            refine Does2.call 14 #[.agg #[.bool p2, .slice a9 l2.length c9], .int .u32 x] (w' := w9) ?_ ((sWants p2 a9 _ c9 l2 x w9 rfl (by have := HL2.out; omega) (A9.out.below hS)).mono ?_)
            · clear hS h0 hd
              go_simp
            · rw [HW2.out]
              rintro e w8 ⟨rfl, hb⟩
              exact ⟨_, rfl, rfl, hS.trans (hb.mono hS.size), hb⟩
          case refine_17 =>
            intro hrun a' w9 hS h0 hd
            have e8 : a'.tmps[8]?.getD undef = .pointer (some ⟨w104.heap.size, 0, none⟩) := evG (h0 8 (by kernel_rfl))
            have d0 := (hS.cell (cell_lt U0.out)).trans U0.out
            have d1 := (hS.cell (cell_lt U1.out)).trans U1.out
            refine Does2.value (.agg #[.bool p1, .slice a5 l1.length c5]) (w' := w9) ?_ ⟨rfl, hS, Below.refl _ _⟩
            clear hS h0 hd hrun
            go_simp
          case refine_18 =>
            intro hrun a' w9 hS h0 hd
            have e2 : a'.tmps[2]?.getD undef = .int .u32 x := evG (h0 2 (by kernel_rfl))
            refine Does2.value (.int .u32 x) (w' := w9) ?_ ⟨rfl, hS, Below.refl _ _⟩
            clear hS h0 hd hrun
            go_simp
          case refine_19 =>
            intro hrun a' w9 hS h0 hd
            have e52 : a'.tmps[52]?.getD undef = .agg #[.bool p1, .slice a5 l1.length c5] := evG (hd 16 List.mem_cons_self)
            have e53 : a'.tmps[53]?.getD undef = .int .u32 x := evG (hd 17 (List.mem_cons_of_mem _ List.mem_cons_self))
            refine Does2.call 14 #[.agg #[.bool p1, .slice a5 l1.length c5], .int .u32 x] (w' := w9) ?_ ((sWants p1 a5 _ c5 l1 x w9 rfl (by have := HL1.out; omega) (A5.out.below hS)).mono ?_)
            · clear hS h0 hd
              go_simp
            · rw [HW1.out]
              rintro e w8 ⟨rfl, hb⟩
              exact ⟨_, rfl, rfl, hS.trans (hb.mono hS.size), hb⟩
          case refine_20 =>
            intro hrun a' w9 hS h0 hd
            have e54 : a'.tmps[54]?.getD undef = .bool false := evG (hd 18 List.mem_cons_self)
            refine Does2.value (.bool false) (w' := w9) ?_ ⟨rfl, hS, Below.refl _ _⟩
            clear hS h0 hd hrun
            go_simp
          case refine_21 =>
            intro hrun a' w9 hS h0 hd
            have e4 : a'.tmps[4]?.getD undef = .pointer (some ⟨w.heap.size, 0, none⟩) := evG (h0 4 (by kernel_rfl))
            have d0 := (hS.cell (cell_lt K0.out)).trans K0.out
            have d1 := (hS.cell (cell_lt K1.out)).trans K1.out
            refine Does2.value (.agg #[.bool ex, .slice fa srcs.length fc]) (w' := w9) ?_ ⟨rfl, hS, Below.refl _ _⟩
            clear hS h0 hd hrun
            go_simp
          case refine_22 =>
            intro hrun a' w9 hS h0 hd
            have e2 : a'.tmps[2]?.getD undef = .int .u32 x := evG (h0 2 (by kernel_rfl))
            refine Does2.value (.int .u32 x) (w' := w9) ?_ ⟨rfl, hS, Below.refl _ _⟩
            clear hS h0 hd hrun
            go_simp
          case refine_23 =>
            intro hrun a' w9 hS h0 hd
            have e56 : a'.tmps[56]?.getD undef = .agg #[.bool ex, .slice fa srcs.length fc] := evG (hd 20 List.mem_cons_self)
            have e57 : a'.tmps[57]?.getD undef = .int .u32 x := evG (hd 21 (List.mem_cons_of_mem _ List.mem_cons_self))
            refine Does2.call 14 #[.agg #[.bool ex, .slice fa srcs.length fc], .int .u32 x] (w' := w9) ?_ ((sWants ex fa _ fc srcs x w9 rfl (by have := HLF.out; omega) (SF.out.1.below hS)).mono ?_)
            · clear hS h0 hd
              go_simp
            · rw [HWF.out]
              rintro e w8 ⟨rfl, hb⟩
              exact ⟨_, rfl, rfl, hS.trans (hb.mono hS.size), hb⟩
          case refine_24 =>
            intro hrun a' w9 hS h0 hd
            have e55 : a'.tmps[55]?.getD undef = .bool false := evG (hd 19 List.mem_cons_self)
            have e58 : a'.tmps[58]?.getD undef = .bool bf := evG (hd 22 (List.mem_cons_of_mem _ List.mem_cons_self))
            refine Does2.value (.bool bf) (w' := w9) ?_ ⟨rfl, hS, Below.refl _ _⟩
            clear hS h0 hd hrun
            go_simp
          case refine_25 =>
            intro hrun a' w9 hS h0 hd
            have e51 : a'.tmps[51]?.getD undef = .bool bf := evG (hd 15 List.mem_cons_self)
            have e59 : a'.tmps[59]?.getD undef = .bool bf := evG (hd 23 (List.mem_cons_of_mem _ List.mem_cons_self))
            refine Does2.value (.bool true) (w' := w9) ?_ ⟨rfl, hS, Below.refl _ _⟩
            clear hS h0 hd hrun
            go_simp
          case refine_26 =>
            intro hrun a' w9 hS h0 hd
            have e48 : a'.tmps[48]?.getD undef = .bool true := evG (hd 12 List.mem_cons_self)
            have e60 : a'.tmps[60]?.getD undef = .bool true := evG (hd 24 (List.mem_cons_of_mem _ List.mem_cons_self))
            refine Does2.value (.bool true) (w' := w9) ?_ ⟨rfl, hS, Below.refl _ _⟩
            clear hS h0 hd hrun
            go_simp
          case refine_27 =>
            intro hrun a' w9 hS h0 hd
            have e61 : a'.tmps[61]?.getD undef = .bool true := evG (hd 25 List.mem_cons_self)
            refine Does2.value (.bool true) (w' := w9) ?_ ⟨rfl, hS, Below.refl _ _⟩
            clear hS h0 hd hrun
            go_simp
          case refine_28 =>
            intro hrun a' w9 hS h0 hd
            have e9 : a'.tmps[9]?.getD undef = .pointer (some ⟨B9, 0, none⟩) := evG (h0 9 (by kernel_rfl))
            refine Does2.value (.pointer (some ⟨B9, 0, none⟩)) (w' := w9) ?_ ⟨rfl, hS, Below.refl _ _⟩
            clear hS h0 hd hrun
            go_simp
          case refine_29 =>
            intro hrun a' w9 hS h0 hd
            have e63 : a'.tmps[63]?.getD undef = .pointer (some ⟨B9, 0, none⟩) := evG (hd 27 List.mem_cons_self)
            have d0 := (hS.cell (cell_lt I0.out)).trans I0.out
            refine Does2.value (.bool p2) (w' := w9) ?_ ⟨rfl, hS, Below.refl _ _⟩
            clear hS h0 hd hrun
            go_simp
          case refine_30 =>
            intro hrun a' w9 hS h0 hd
            have e10 : a'.tmps[10]?.getD undef = .pointer (some ⟨w105.heap.size, 0, none⟩) := evG (h0 10 (by kernel_rfl))
            refine Does2.value (.pointer (some ⟨w105.heap.size, 0, none⟩)) (w' := w9) ?_ ⟨rfl, hS, Below.refl _ _⟩
            clear hS h0 hd hrun
            go_simp
          case refine_31 =>
            intro hrun a' w9 hS h0 hd
            have e65 : a'.tmps[65]?.getD undef = .pointer (some ⟨w105.heap.size, 0, none⟩) := evG (hd 29 List.mem_cons_self)
            have d0 := (hS.cell (cell_lt O0.out)).trans O0.out
            refine Does2.value (.bool p2) (w' := w9) ?_ ⟨rfl, hS, Below.refl _ _⟩
            clear hS h0 hd hrun
            go_simp
          case refine_32 =>
            intro hrun a' w9 hS h0 hd
            have e64 : a'.tmps[64]?.getD undef = .bool p2 := evG (hd 28 List.mem_cons_self)
            have e66 : a'.tmps[66]?.getD undef = .bool p2 := evG (hd 30 (List.mem_cons_of_mem _ List.mem_cons_self))
            refine Does2.value (.bool true) (w' := w9) ?_ ⟨rfl, hS, Below.refl _ _⟩
            clear hS h0 hd hrun
            go_simp
          case refine_33 =>
            intro hrun a' w9 hS h0 hd
            have e62 : a'.tmps[62]?.getD undef = .bool true := evG (hd 26 List.mem_cons_self)
            have e67 : a'.tmps[67]?.getD undef = .bool true := evG (hd 31 (List.mem_cons_of_mem _ List.mem_cons_self))
            refine Does2.value (.bool true) (w' := w9) ?_ ⟨rfl, hS, Below.refl _ _⟩
            clear hS h0 hd hrun
            go_simp
          case refine_34 =>
            intro hrun a' w9 hS h0 hd
            have e68 : a'.tmps[68]?.getD undef = .bool true := evG (hd 32 List.mem_cons_self)
            refine Does2.value (.bool true) (w' := w9) ?_ ⟨rfl, hS, Below.refl _ _⟩
            clear hS h0 hd hrun
            go_simp
          case refine_35 =>
            intro hrun a' w9 hS h0 hd
            have e9 : a'.tmps[9]?.getD undef = .pointer (some ⟨B9, 0, none⟩) := evG (h0 9 (by kernel_rfl))
            refine Does2.value (.pointer (some ⟨B9, 1, none⟩)) (w' := w9) ?_ ⟨rfl, hS, Below.refl _ _⟩
            clear hS h0 hd hrun
            go_simp
          case refine_36 =>
            intro hrun a' w9 hS h0 hd
            have e70 : a'.tmps[70]?.getD undef = .pointer (some ⟨B9, 1, none⟩) := evG (hd 34 List.mem_cons_self)
            have d0 := (hS.cell (cell_lt I1.out)).trans I1.out
            refine Does2.value (.slice a9 l2.length c9) (w' := w9) ?_ ⟨rfl, hS, Below.refl _ _⟩
            clear hS h0 hd hrun
            go_simp
          case refine_37 =>
            intro hrun a' w9 hS h0 hd
            have e10 : a'.tmps[10]?.getD undef = .pointer (some ⟨w105.heap.size, 0, none⟩) := evG (h0 10 (by kernel_rfl))
            refine Does2.value (.pointer (some ⟨w105.heap.size, 1, none⟩)) (w' := w9) ?_ ⟨rfl, hS, Below.refl _ _⟩
            clear hS h0 hd hrun
            go_simp
          case refine_38 =>
            intro hrun a' w9 hS h0 hd
            have e72 : a'.tmps[72]?.getD undef = .pointer (some ⟨w105.heap.size, 1, none⟩) := evG (hd 36 List.mem_cons_self)
            have d0 := (hS.cell (cell_lt O1.out)).trans O1.out
            refine Does2.value (.slice a10 l2.length c10) (w' := w9) ?_ ⟨rfl, hS, Below.refl _ _⟩
            clear hS h0 hd hrun
            go_simp
          case refine_39 =>
            intro hrun a' w9 hS h0 hd
            have e71 : a'.tmps[71]?.getD undef = .slice a9 l2.length c9 := evG (hd 35 List.mem_cons_self)
            have e73 : a'.tmps[73]?.getD undef = .slice a10 l2.length c10 := evG (hd 37 (List.mem_cons_of_mem _ List.mem_cons_self))
            refine Does2.call 15 #[.slice a9 l2.length c9, .slice a10 l2.length c10] (w' := w9) ?_ ((rRows a9 a10 _ _ c9 c10 l2 l2 w9 rfl rfl (by have := HL2.out; omega) (A9.out.below hS) (A10.out.below hS)).mono ?_)
            · clear hS h0 hd
              go_simp
            · rw [decide_eq_true (rfl : l2 = l2)]
              rintro e w8 ⟨rfl, hb⟩
              exact ⟨_, rfl, rfl, hS.trans (hb.mono hS.size), hb⟩
          case refine_40 =>
            intro hrun a' w9 hS h0 hd
            have e69 : a'.tmps[69]?.getD undef = .bool true := evG (hd 33 List.mem_cons_self)
            have e74 : a'.tmps[74]?.getD undef = .bool true := evG (hd 38 (List.mem_cons_of_mem _ List.mem_cons_self))
            refine Does2.value (.bool true) (w' := w9) ?_ ⟨rfl, hS, Below.refl _ _⟩
            clear hS h0 hd hrun
            go_simp
          case refine_41 =>
            intro hrun a' w9 hS h0 hd
            have e75 : a'.tmps[75]?.getD undef = .bool true := evG (hd 39 List.mem_cons_self)
            refine Does2.value (.bool true) (w' := w9) ?_ ⟨rfl, hS, Below.refl _ _⟩
            clear hS h0 hd hrun
            go_simp
          case hend =>
            intro f w9 hS hv
            have v6 := hv 40 (by decide)
            replace v6 : f 6 = .bool true := v6
            simp only [putAll, Act.put, List.setIfInBounds_toArray, List.set_cons_zero, List.set_cons_succ, v6]
            have BB := Lib.hid (BB.out.trans (hS.mono BB.out.size))
            clear hS hv v6
            go_wp2_with fail
            go_ret
            exact ⟨rfl, BB.out⟩
        · replace HW2 : Hid ((decide (x ∈ l2) != p2) = true) := Lib.hid (by simpa using HW2.out)
          refine wp_region_each4 (saV w.heap.size w104.heap.size B9 w105.heap.size x p1 p2 ex bf a5 a9 a10 fa l1.length c5 l2.length c9 c10 srcs.length fc) (fun W => Below v7.heap.size v7 W) (fun _ A B => Below A.heap.size A B) saD saN [36, 37, 38, 39, 40, 41, 42, 43, 44, 45, 46, 47, 48, 49, 50, 51, 52, 53, 54, 55, 56, 57, 58, 59, 60, 61, 62, 63, 64, 65, 66, 67, 68, 69, 70, 71, 72, 73, 74, 75, 6] (by kernel_rfl) (by kernel_rfl) (by kernel_rfl) (Below.refl _ v7).drew
            (fun i j oi oj v us A B hoi hoj hij hw hSA hr hv => sa_st _ _ _ _ _ _ _ _ _ _ _ _ _ _ _ _ _ _ _ _ trivial hv) ?hgd ?hng ?hsk
            ⟨?_, ?_, ?_, ?_, ?_, ?_, ?_, ?_, ?_, ?_, ?_, ?_, ?_, ?_, ?_, ?_, ?_, ?_, ?_, ?_, ?_, ?_, ?_, ?_, ?_, ?_, ?_, ?_, ?_, ?_, ?_, ?_, ?_, ?_, ?_, ?_, ?_, ?_, ?_, ?_, ?_, trivial⟩ ?hend
          case hgd =>
            intro i o g b hoi hog v us w hv
            have hi : i < 41 := (Array.getElem?_eq_some_iff.1 hoi).1
            have hc : i = 0 ∨ i = 1 ∨ i = 2 ∨ i = 3 ∨ i = 4 ∨ i = 5 ∨ i = 6 ∨ i = 7 ∨ i = 8 ∨ i = 9 ∨ i = 10 ∨ i = 11 ∨ i = 12 ∨ i = 13 ∨ i = 14 ∨ i = 15 ∨ i = 16 ∨ i = 17 ∨ i = 18 ∨ i = 19 ∨ i = 20 ∨ i = 21 ∨ i = 22 ∨ i = 23 ∨ i = 24 ∨ i = 25 ∨ i = 26 ∨ i = 27 ∨ i = 28 ∨ i = 29 ∨ i = 30 ∨ i = 31 ∨ i = 32 ∨ i = 33 ∨ i = 34 ∨ i = 35 ∨ i = 36 ∨ i = 37 ∨ i = 38 ∨ i = 39 ∨ i = 40 := by omega
            rcases hc with rfl | rfl | rfl | rfl | rfl | rfl | rfl | rfl | rfl | rfl | rfl | rfl | rfl | rfl | rfl | rfl | rfl | rfl | rfl | rfl | rfl | rfl | rfl | rfl | rfl | rfl | rfl | rfl | rfl | rfl | rfl | rfl | rfl | rfl | rfl | rfl | rfl | rfl | rfl | rfl | rfl
            · cases hoi; cases hog
            · cases hoi; cases hog
            · cases hoi; cases hog; exact hv
            · cases hoi; cases hog; exact hv
            · cases hoi; cases hog; exact hv
            · cases hoi; cases hog; exact hv
            · cases hoi; cases hog; exact hv
            · cases hoi; cases hog; exact hv
            · cases hoi; cases hog; exact hv
            · cases hoi; cases hog; exact hv
            · cases hoi; cases hog; exact hv
            · cases hoi; cases hog
            · cases hoi; cases hog
            · cases hoi; cases hog; exact hv
            · cases hoi; cases hog; exact hv
            · cases hoi; cases hog; exact hv
            · cases hoi; cases hog; exact hv
            · cases hoi; cases hog; exact hv
            · cases hoi; cases hog; exact hv
            · cases hoi; cases hog; exact hv
            · cases hoi; cases hog
              show v ≠ _
              rw [show v = _ from hv]
              intro e; cases e
            · cases hoi; cases hog
              show v ≠ _
              rw [show v = _ from hv]
              intro e; cases e
            · cases hoi; cases hog
              show v ≠ _
              rw [show v = _ from hv]
              intro e; cases e
            · cases hoi; cases hog; exact hv
            · cases hoi; cases hog; exact hv
            · cases hoi; cases hog
            · cases hoi; cases hog
            · cases hoi; cases hog; exact hv
            · cases hoi; cases hog; exact hv
            · cases hoi; cases hog; exact hv
            · cases hoi; cases hog; exact hv
            · cases hoi; cases hog; exact hv
            · cases hoi; cases hog
            · cases hoi; cases hog
            · cases hoi; cases hog; exact hv
            · cases hoi; cases hog; exact hv
            · cases hoi; cases hog; exact hv
            · cases hoi; cases hog; exact hv
            · cases hoi; cases hog; exact hv
            · cases hoi; cases hog
            · cases hoi; cases hog
          case hng =>
            intro i o hoi hr
            have hi : i < 41 := (Array.getElem?_eq_some_iff.1 hoi).1
            have hc : i = 0 ∨ i = 1 ∨ i = 2 ∨ i = 3 ∨ i = 4 ∨ i = 5 ∨ i = 6 ∨ i = 7 ∨ i = 8 ∨ i = 9 ∨ i = 10 ∨ i = 11 ∨ i = 12 ∨ i = 13 ∨ i = 14 ∨ i = 15 ∨ i = 16 ∨ i = 17 ∨ i = 18 ∨ i = 19 ∨ i = 20 ∨ i = 21 ∨ i = 22 ∨ i = 23 ∨ i = 24 ∨ i = 25 ∨ i = 26 ∨ i = 27 ∨ i = 28 ∨ i = 29 ∨ i = 30 ∨ i = 31 ∨ i = 32 ∨ i = 33 ∨ i = 34 ∨ i = 35 ∨ i = 36 ∨ i = 37 ∨ i = 38 ∨ i = 39 ∨ i = 40 := by omega
            rcases hc with rfl | rfl | rfl | rfl | rfl | rfl | rfl | rfl | rfl | rfl | rfl | rfl | rfl | rfl | rfl | rfl | rfl | rfl | rfl | rfl | rfl | rfl | rfl | rfl | rfl | rfl | rfl | rfl | rfl | rfl | rfl | rfl | rfl | rfl | rfl | rfl | rfl | rfl | rfl | rfl | rfl
            · exact absurd hr (by decide)
            · exact absurd hr (by decide)
            · exact absurd hr (by decide)
            · exact absurd hr (by decide)
            · exact absurd hr (by decide)
            · exact absurd hr (by decide)
            · exact absurd hr (by decide)
            · exact absurd hr (by decide)
            · exact absurd hr (by decide)
            · exact absurd hr (by decide)
            · exact absurd hr (by decide)
            · exact absurd hr (by decide)
            · exact absurd hr (by decide)
            · exact absurd hr (by decide)
            · exact absurd hr (by decide)
            · exact absurd hr (by decide)
            · exact absurd hr (by decide)
            · exact absurd hr (by decide)
            · exact absurd hr (by decide)
            · exact absurd hr (by decide)
            · cases hoi; exact ⟨_, _, rfl⟩
            · cases hoi; exact ⟨_, _, rfl⟩
            · cases hoi; exact ⟨_, _, rfl⟩
            · exact absurd hr (by decide)
            · exact absurd hr (by decide)
            · exact absurd hr (by decide)
            · exact absurd hr (by decide)
            · exact absurd hr (by decide)
            · exact absurd hr (by decide)
            · exact absurd hr (by decide)
            · exact absurd hr (by decide)
            · exact absurd hr (by decide)
            · exact absurd hr (by decide)
            · exact absurd hr (by decide)
            · exact absurd hr (by decide)
            · exact absurd hr (by decide)
            · exact absurd hr (by decide)
            · exact absurd hr (by decide)
            · exact absurd hr (by decide)
            · exact absurd hr (by decide)
            · exact absurd hr (by decide)
          case hsk =>
            intro i us w hr hS
            by_cases hi : i < 41
            · have hc : i = 0 ∨ i = 1 ∨ i = 2 ∨ i = 3 ∨ i = 4 ∨ i = 5 ∨ i = 6 ∨ i = 7 ∨ i = 8 ∨ i = 9 ∨ i = 10 ∨ i = 11 ∨ i = 12 ∨ i = 13 ∨ i = 14 ∨ i = 15 ∨ i = 16 ∨ i = 17 ∨ i = 18 ∨ i = 19 ∨ i = 20 ∨ i = 21 ∨ i = 22 ∨ i = 23 ∨ i = 24 ∨ i = 25 ∨ i = 26 ∨ i = 27 ∨ i = 28 ∨ i = 29 ∨ i = 30 ∨ i = 31 ∨ i = 32 ∨ i = 33 ∨ i = 34 ∨ i = 35 ∨ i = 36 ∨ i = 37 ∨ i = 38 ∨ i = 39 ∨ i = 40 := by omega
              rcases hc with rfl | rfl | rfl | rfl | rfl | rfl | rfl | rfl | rfl | rfl | rfl | rfl | rfl | rfl | rfl | rfl | rfl | rfl | rfl | rfl | rfl | rfl | rfl | rfl | rfl | rfl | rfl | rfl | rfl | rfl | rfl | rfl | rfl | rfl | rfl | rfl | rfl | rfl | rfl | rfl | rfl
              · exact absurd hr (by decide)
              · exact absurd hr (by decide)
              · exact absurd hr (by decide)
              · exact absurd hr (by decide)
              · exact absurd hr (by decide)
              · exact absurd hr (by decide)
              · exact absurd hr (by decide)
              · exact absurd hr (by decide)
              · exact absurd hr (by decide)
              · exact absurd hr (by decide)
              · exact absurd hr (by decide)
              · exact absurd hr (by decide)
              · exact absurd hr (by decide)
              · exact absurd hr (by decide)
              · exact absurd hr (by decide)
              · exact absurd hr (by decide)
              · exact absurd hr (by decide)
              · exact absurd hr (by decide)
              · exact absurd hr (by decide)
              · exact absurd hr (by decide)
              · exact rfl
              · exact rfl
              · exact rfl
              · exact absurd hr (by decide)
              · exact absurd hr (by decide)
              · exact absurd hr (by decide)
              · exact absurd hr (by decide)
              · exact absurd hr (by decide)
              · exact absurd hr (by decide)
              · exact absurd hr (by decide)
              · exact absurd hr (by decide)
              · exact absurd hr (by decide)
              · exact absurd hr (by decide)
              · exact absurd hr (by decide)
              · exact absurd hr (by decide)
              · exact absurd hr (by decide)
              · exact absurd hr (by decide)
              · exact absurd hr (by decide)
              · exact absurd hr (by decide)
              · exact absurd hr (by decide)
              · exact absurd hr (by decide)
            · exact absurd hr (by rw [show saN i = true from by unfold saN; simp; omega]; decide)
          case refine_1 =>
            intro hrun a' w9 hS h0 hd
            have e7 : a'.tmps[7]?.getD undef = .bool true := evG (h0 7 (by kernel_rfl))
            refine Does2.value (.bool true) (w' := w9) ?_ ⟨rfl, hS, Below.refl _ _⟩
            clear hS h0 hd hrun
            go_simp
          case refine_2 =>
            intro hrun a' w9 hS h0 hd
            have e36 : a'.tmps[36]?.getD undef = .bool true := evG (hd 0 List.mem_cons_self)
            refine Does2.value (.bool true) (w' := w9) ?_ ⟨rfl, hS, Below.refl _ _⟩
            clear hS h0 hd hrun
            go_simp
          case refine_3 =>
            intro hrun a' w9 hS h0 hd
            have e8 : a'.tmps[8]?.getD undef = .pointer (some ⟨w104.heap.size, 0, none⟩) := evG (h0 8 (by kernel_rfl))
            have d0 := (hS.cell (cell_lt U0.out)).trans U0.out
            have d1 := (hS.cell (cell_lt U1.out)).trans U1.out
            refine Does2.value (.agg #[.bool p1, .slice a5 l1.length c5]) (w' := w9) ?_ ⟨rfl, hS, Below.refl _ _⟩
            clear hS h0 hd hrun
            go_simp
          case refine_4 =>
            intro hrun a' w9 hS h0 hd
            have e2 : a'.tmps[2]?.getD undef = .int .u32 x := evG (h0 2 (by kernel_rfl))
            refine Does2.value (.int .u32 x) (w' := w9) ?_ ⟨rfl, hS, Below.refl _ _⟩
            clear hS h0 hd hrun
            go_simp
          case refine_5 =>
            intro hrun a' w9 hS h0 hd
            have e38 : a'.tmps[38]?.getD undef = .agg #[.bool p1, .slice a5 l1.length c5] := evG (hd 2 List.mem_cons_self)
            have e39 : a'.tmps[39]?.getD undef = .int .u32 x := evG (hd 3 (List.mem_cons_of_mem _ List.mem_cons_self))
            refine Does2.call 14 #[.agg #[.bool p1, .slice a5 l1.length c5], .int .u32 x] (w' := w9) ?_ ((sWants p1 a5 _ c5 l1 x w9 rfl (by have := HL1.out; omega) (A5.out.below hS)).mono ?_)
            · clear hS h0 hd
              go_simp
            · rw [HW1.out]
              rintro e w8 ⟨rfl, hb⟩
              exact ⟨_, rfl, rfl, hS.trans (hb.mono hS.size), hb⟩
          case refine_6 =>
            intro hrun a' w9 hS h0 hd
            have e40 : a'.tmps[40]?.getD undef = .bool true := evG (hd 4 List.mem_cons_self)
            refine Does2.value (.bool false) (w' := w9) ?_ ⟨rfl, hS, Below.refl _ _⟩
            clear hS h0 hd hrun
            go_simp
          case refine_7 =>
            intro hrun a' w9 hS h0 hd
            have e41 : a'.tmps[41]?.getD undef = .bool false := evG (hd 5 List.mem_cons_self)
            refine Does2.value (.bool false) (w' := w9) ?_ ⟨rfl, hS, Below.refl _ _⟩
            clear hS h0 hd hrun
            go_simp
          case refine_8 =>
            intro hrun a' w9 hS h0 hd
            have e9 : a'.tmps[9]?.getD undef = .pointer (some ⟨B9, 0, none⟩) := evG (h0 9 (by kernel_rfl))
            have d0 := (hS.cell (cell_lt I0.out)).trans I0.out
            have d1 := (hS.cell (cell_lt I1.out)).trans I1.out
            refine Does2.value (.agg #[.bool p2, .slice a9 l2.length c9]) (w' := w9) ?_ ⟨rfl, hS, Below.refl _ _⟩
            clear hS h0 hd hrun
            go_simp
          case refine_9 =>
            intro hrun a' w9 hS h0 hd
            have e2 : a'.tmps[2]?.getD undef = .int .u32 x := evG (h0 2 (by kernel_rfl))
            refine Does2.value (.int .u32 x) (w' := w9) ?_ ⟨rfl, hS, Below.refl _ _⟩
            clear hS h0 hd hrun
            go_simp
          case refine_10 =>
            intro hrun a' w9 hS h0 hd
            have e43 : a'.tmps[43]?.getD undef = .agg #[.bool p2, .slice a9 l2.length c9] := evG (hd 7 List.mem_cons_self)
            have e44 : a'.tmps[44]?.getD undef = .int .u32 x := evG (hd 8 (List.mem_cons_of_mem _ List.mem_cons_self))
            refine Does2.call 14 #[.agg #[.bool p2, .slice a9 l2.length c9], .int .u32 x] (w' := w9) ?_ ((sWants p2 a9 _ c9 l2 x w9 rfl (by have := HL2.out; omega) (A9.out.below hS)).mono ?_)
            · clear hS h0 hd
              go_simp
            · rw [HW2.out]
              rintro e w8 ⟨rfl, hb⟩
              exact ⟨_, rfl, rfl, hS.trans (hb.mono hS.size), hb⟩
          case refine_11 =>
            intro hrun a' w9 hS h0 hd
            have e42 : a'.tmps[42]?.getD undef = .bool false := evG (hd 6 List.mem_cons_self)
            have e45 : a'.tmps[45]?.getD undef = .bool true := evG (hd 9 (List.mem_cons_of_mem _ List.mem_cons_self))
            refine Does2.value (.bool true) (w' := w9) ?_ ⟨rfl, hS, Below.refl _ _⟩
            clear hS h0 hd hrun
            go_simp
          case refine_12 =>
            intro hrun a' w9 hS h0 hd
            have e37 : a'.tmps[37]?.getD undef = .bool true := evG (hd 1 List.mem_cons_self)
            have e46 : a'.tmps[46]?.getD undef = .bool true := evG (hd 10 (List.mem_cons_of_mem _ List.mem_cons_self))
            refine Does2.value (.bool true) (w' := w9) ?_ ⟨rfl, hS, Below.refl _ _⟩
            clear hS h0 hd hrun
            go_simp
          case refine_13 =>
            intro hrun a' w9 hS h0 hd
            have e47 : a'.tmps[47]?.getD undef = .bool true := evG (hd 11 List.mem_cons_self)
            refine Does2.value (.bool true) (w' := w9) ?_ ⟨rfl, hS, Below.refl _ _⟩
            clear hS h0 hd hrun
            go_simp
          case refine_14 =>
            intro hrun a' w9 hS h0 hd
            have e9 : a'.tmps[9]?.getD undef = .pointer (some ⟨B9, 0, none⟩) := evG (h0 9 (by kernel_rfl))
            have d0 := (hS.cell (cell_lt I0.out)).trans I0.out
            have d1 := (hS.cell (cell_lt I1.out)).trans I1.out
            refine Does2.value (.agg #[.bool p2, .slice a9 l2.length c9]) (w' := w9) ?_ ⟨rfl, hS, Below.refl _ _⟩
            clear hS h0 hd hrun
            go_simp
          case refine_15 =>
            intro hrun a' w9 hS h0 hd
            have e2 : a'.tmps[2]?.getD undef = .int .u32 x := evG (h0 2 (by kernel_rfl))
            refine Does2.value (.int .u32 x) (w' := w9) ?_ ⟨rfl, hS, Below.refl _ _⟩
            clear hS h0 hd hrun
            go_simp
          case refine_16 =>
            intro hrun a' w9 hS h0 hd
            have e49 : a'.tmps[49]?.getD undef = .agg #[.bool p2, .slice a9 l2.length c9] := evG (hd 13 List.mem_cons_self)
            have e50 : a'.tmps[50]?.getD undef = .int .u32 x := evG (hd 14 (List.mem_cons_of_mem _ List.mem_cons_self))
            refine Does2.call 14 #[.agg #[.bool p2, .slice a9 l2.length c9], .int .u32 x] (w' := w9) ?_ ((sWants p2 a9 _ c9 l2 x w9 rfl (by have := HL2.out; omega) (A9.out.below hS)).mono ?_)
            · clear hS h0 hd
              go_simp
            · rw [HW2.out]
              rintro e w8 ⟨rfl, hb⟩
              exact ⟨_, rfl, rfl, hS.trans (hb.mono hS.size), hb⟩
          case refine_17 =>
            intro hrun a' w9 hS h0 hd
            have e8 : a'.tmps[8]?.getD undef = .pointer (some ⟨w104.heap.size, 0, none⟩) := evG (h0 8 (by kernel_rfl))
            have d0 := (hS.cell (cell_lt U0.out)).trans U0.out
            have d1 := (hS.cell (cell_lt U1.out)).trans U1.out
            refine Does2.value (.agg #[.bool p1, .slice a5 l1.length c5]) (w' := w9) ?_ ⟨rfl, hS, Below.refl _ _⟩
            clear hS h0 hd hrun
            go_simp
          case refine_18 =>
            intro hrun a' w9 hS h0 hd
            have e2 : a'.tmps[2]?.getD undef = .int .u32 x := evG (h0 2 (by kernel_rfl))
            refine Does2.value (.int .u32 x) (w' := w9) ?_ ⟨rfl, hS, Below.refl _ _⟩
            clear hS h0 hd hrun
            go_simp
          case refine_19 =>
            intro hrun a' w9 hS h0 hd
            have e52 : a'.tmps[52]?.getD undef = .agg #[.bool p1, .slice a5 l1.length c5] := evG (hd 16 List.mem_cons_self)
            have e53 : a'.tmps[53]?.getD undef = .int .u32 x := evG (hd 17 (List.mem_cons_of_mem _ List.mem_cons_self))
            refine Does2.call 14 #[.agg #[.bool p1, .slice a5 l1.length c5], .int .u32 x] (w' := w9) ?_ ((sWants p1 a5 _ c5 l1 x w9 rfl (by have := HL1.out; omega) (A5.out.below hS)).mono ?_)
            · clear hS h0 hd
              go_simp
            · rw [HW1.out]
              rintro e w8 ⟨rfl, hb⟩
              exact ⟨_, rfl, rfl, hS.trans (hb.mono hS.size), hb⟩
          case refine_20 =>
            intro hrun a' w9 hS h0 hd
            have e54 : a'.tmps[54]?.getD undef = .bool true := evG (hd 18 List.mem_cons_self)
            refine Does2.value (.bool true) (w' := w9) ?_ ⟨rfl, hS, Below.refl _ _⟩
            clear hS h0 hd hrun
            go_simp
          case refine_21 =>
            intro hrun a' w9 hS h0 hd
            exact absurd hrun (by decide)
          case refine_22 =>
            intro hrun a' w9 hS h0 hd
            exact absurd hrun (by decide)
          case refine_23 =>
            intro hrun a' w9 hS h0 hd
            exact absurd hrun (by decide)
          case refine_24 =>
            intro hrun a' w9 hS h0 hd
            have e55 : a'.tmps[55]?.getD undef = .bool true := evG (hd 19 List.mem_cons_self)
            have e58 : a'.tmps[58]?.getD undef = undef := evG (hd 22 (List.mem_cons_of_mem _ List.mem_cons_self))
            refine Does2.value (.bool true) (w' := w9) ?_ ⟨rfl, hS, Below.refl _ _⟩
            clear hS h0 hd hrun
            go_simp
          case refine_25 =>
            intro hrun a' w9 hS h0 hd
            have e51 : a'.tmps[51]?.getD undef = .bool true := evG (hd 15 List.mem_cons_self)
            have e59 : a'.tmps[59]?.getD undef = .bool true := evG (hd 23 (List.mem_cons_of_mem _ List.mem_cons_self))
            refine Does2.value (.bool true) (w' := w9) ?_ ⟨rfl, hS, Below.refl _ _⟩
            clear hS h0 hd hrun
            go_simp
          case refine_26 =>
            intro hrun a' w9 hS h0 hd
            have e48 : a'.tmps[48]?.getD undef = .bool true := evG (hd 12 List.mem_cons_self)
            have e60 : a'.tmps[60]?.getD undef = .bool true := evG (hd 24 (List.mem_cons_of_mem _ List.mem_cons_self))
            refine Does2.value (.bool true) (w' := w9) ?_ ⟨rfl, hS, Below.refl _ _⟩
            clear hS h0 hd hrun
            go_simp
          case refine_27 =>
            intro hrun a' w9 hS h0 hd
            have e61 : a'.tmps[61]?.getD undef = .bool true := evG (hd 25 List.mem_cons_self)
            refine Does2.value (.bool true) (w' := w9) ?_ ⟨rfl, hS, Below.refl _ _⟩
            clear hS h0 hd hrun
            go_simp
          case refine_28 =>
            intro hrun a' w9 hS h0 hd
            have e9 : a'.tmps[9]?.getD undef = .pointer (some ⟨B9, 0, none⟩) := evG (h0 9 (by kernel_rfl))
            refine Does2.value (.pointer (some ⟨B9, 0, none⟩)) (w' := w9) ?_ ⟨rfl, hS, Below.refl _ _⟩
            clear hS h0 hd hrun
            go_simp
          case refine_29 =>
            intro hrun a' w9 hS h0 hd
            have e63 : a'.tmps[63]?.getD undef = .pointer (some ⟨B9, 0, none⟩) := evG (hd 27 List.mem_cons_self)
            have d0 := (hS.cell (cell_lt I0.out)).trans I0.out
            refine Does2.value (.bool p2) (w' := w9) ?_ ⟨rfl, hS, Below.refl _ _⟩
            clear hS h0 hd hrun
            go_simp
          case refine_30 =>
            intro hrun a' w9 hS h0 hd
            have e10 : a'.tmps[10]?.getD undef = .pointer (some ⟨w105.heap.size, 0, none⟩) := evG (h0 10 (by kernel_rfl))
            refine Does2.value (.pointer (some ⟨w105.heap.size, 0, none⟩)) (w' := w9) ?_ ⟨rfl, hS, Below.refl _ _⟩
            clear hS h0 hd hrun
            go_simp
          case refine_31 =>
            intro hrun a' w9 hS h0 hd
            have e65 : a'.tmps[65]?.getD undef = .pointer (some ⟨w105.heap.size, 0, none⟩) := evG (hd 29 List.mem_cons_self)
            have d0 := (hS.cell (cell_lt O0.out)).trans O0.out
            refine Does2.value (.bool p2) (w' := w9) ?_ ⟨rfl, hS, Below.refl _ _⟩
            clear hS h0 hd hrun
            go_simp
          case refine_32 =>
            intro hrun a' w9 hS h0 hd
            have e64 : a'.tmps[64]?.getD undef = .bool p2 := evG (hd 28 List.mem_cons_self)
            have e66 : a'.tmps[66]?.getD undef = .bool p2 := evG (hd 30 (List.mem_cons_of_mem _ List.mem_cons_self))
            refine Does2.value (.bool true) (w' := w9) ?_ ⟨rfl, hS, Below.refl _ _⟩
            clear hS h0 hd hrun
            go_simp
          case refine_33 =>
            intro hrun a' w9 hS h0 hd
            have e62 : a'.tmps[62]?.getD undef = .bool true := evG (hd 26 List.mem_cons_self)
            have e67 : a'.tmps[67]?.getD undef = .bool true := evG (hd 31 (List.mem_cons_of_mem _ List.mem_cons_self))
            refine Does2.value (.bool true) (w' := w9) ?_ ⟨rfl, hS, Below.refl _ _⟩
            clear hS h0 hd hrun
            go_simp
          case refine_34 =>
            intro hrun a' w9 hS h0 hd
            have e68 : a'.tmps[68]?.getD undef = .bool true := evG (hd 32 List.mem_cons_self)
            refine Does2.value (.bool true) (w' := w9) ?_ ⟨rfl, hS, Below.refl _ _⟩
            clear hS h0 hd hrun
            go_simp
          case refine_35 =>
            intro hrun a' w9 hS h0 hd
            have e9 : a'.tmps[9]?.getD undef = .pointer (some ⟨B9, 0, none⟩) := evG (h0 9 (by kernel_rfl))
            refine Does2.value (.pointer (some ⟨B9, 1, none⟩)) (w' := w9) ?_ ⟨rfl, hS, Below.refl _ _⟩
            clear hS h0 hd hrun
            go_simp
          case refine_36 =>
            intro hrun a' w9 hS h0 hd
            have e70 : a'.tmps[70]?.getD undef = .pointer (some ⟨B9, 1, none⟩) := evG (hd 34 List.mem_cons_self)
            have d0 := (hS.cell (cell_lt I1.out)).trans I1.out
            refine Does2.value (.slice a9 l2.length c9) (w' := w9) ?_ ⟨rfl, hS, Below.refl _ _⟩
            clear hS h0 hd hrun
            go_simp
          case refine_37 =>
            intro hrun a' w9 hS h0 hd
            have e10 : a'.tmps[10]?.getD undef = .pointer (some ⟨w105.heap.size, 0, none⟩) := evG (h0 10 (by kernel_rfl))
            refine Does2.value (.pointer (some ⟨w105.heap.size, 1, none⟩)) (w' := w9) ?_ ⟨rfl, hS, Below.refl _ _⟩
            clear hS h0 hd hrun
            go_simp
          case refine_38 =>
            intro hrun a' w9 hS h0 hd
            have e72 : a'.tmps[72]?.getD undef = .pointer (some ⟨w105.heap.size, 1, none⟩) := evG (hd 36 List.mem_cons_self)
            have d0 := (hS.cell (cell_lt O1.out)).trans O1.out
            refine Does2.value (.slice a10 l2.length c10) (w' := w9) ?_ ⟨rfl, hS, Below.refl _ _⟩
            clear hS h0 hd hrun
            go_simp
          case refine_39 =>
            intro hrun a' w9 hS h0 hd
            have e71 : a'.tmps[71]?.getD undef = .slice a9 l2.length c9 := evG (hd 35 List.mem_cons_self)
            have e73 : a'.tmps[73]?.getD undef = .slice a10 l2.length c10 := evG (hd 37 (List.mem_cons_of_mem _ List.mem_cons_self))
            refine Does2.call 15 #[.slice a9 l2.length c9, .slice a10 l2.length c10] (w' := w9) ?_ ((rRows a9 a10 _ _ c9 c10 l2 l2 w9 rfl rfl (by have := HL2.out; omega) (A9.out.below hS) (A10.out.below hS)).mono ?_)
            · clear hS h0 hd
              go_simp
            · rw [decide_eq_true (rfl : l2 = l2)]
              rintro e w8 ⟨rfl, hb⟩
              exact ⟨_, rfl, rfl, hS.trans (hb.mono hS.size), hb⟩
          case refine_40 =>
            intro hrun a' w9 hS h0 hd
            have e69 : a'.tmps[69]?.getD undef = .bool true := evG (hd 33 List.mem_cons_self)
            have e74 : a'.tmps[74]?.getD undef = .bool true := evG (hd 38 (List.mem_cons_of_mem _ List.mem_cons_self))
            refine Does2.value (.bool true) (w' := w9) ?_ ⟨rfl, hS, Below.refl _ _⟩
            clear hS h0 hd hrun
            go_simp
          case refine_41 =>
            intro hrun a' w9 hS h0 hd
            have e75 : a'.tmps[75]?.getD undef = .bool true := evG (hd 39 List.mem_cons_self)
            refine Does2.value (.bool true) (w' := w9) ?_ ⟨rfl, hS, Below.refl _ _⟩
            clear hS h0 hd hrun
            go_simp
          case hend =>
            intro f w9 hS hv
            have v6 := hv 40 (by decide)
            replace v6 : f 6 = .bool true := v6
            simp only [putAll, Act.put, List.setIfInBounds_toArray, List.set_cons_zero, List.set_cons_succ, v6]
            have BB := Lib.hid (BB.out.trans (hS.mono BB.out.size))
            clear hS hv v6
            go_wp2_with fail
            go_ret
            exact ⟨rfl, BB.out⟩
    · rw [decide_eq_false q2]
      clear q2
      go_wp2_with fail
      go_ret
      exact ⟨rfl, BB.out⟩
  · rw [decide_eq_false q1]
    clear q1
    go_wp2_with fail
    go_ret
    exact ⟨rfl, BB.out⟩

set_option maxRecDepth 100000 in
theorem contract (H : Type) (enc : TypeId × Value → H) (W : World) (base : Nat) (args : Array Value) (ds gs : List (DataW H)) (before : List MemPlace)
    (hval : ∀ (j : Nat) t v, Try.f3.params[j]? = some t → args[j]? = some v → Value.okWide Try.prog W .any base t v)
    (hW : DataW.Whole enc Try.prog Try.f3.params.toList Rows.setMoreSpec.vars false W args.toList ds gs before) (hsz : (DataW.weightsEach Try.prog (Try.f3.params.toList ++ Rows.setMoreSpec.plain.varTypes Try.prog) (ds ++ gs)).all (· ≤ reachBytes) = true) :
    Calls Try.prog 3 args W fun e W' => ∃ v, e = .returned v ∧ Rows.setMoreSpec.post enc Try.prog Try.f3 false true false false W args v W' := by
  have hW' := hW
  obtain ⟨p, q, hA0, hV, rfl, hfz, hnd⟩ := hW
  have hA : DataW.TrodAll enc Try.prog W 0 (fun _ => true) true Try.f3.params.toList args.toList ds p := hA0
  rw [Try.params3] at hA hval
  obtain ⟨v0, vs0, d0, ds0, p0, q0, hargs, rfl, rfl, h0, r0⟩ := trodAll_cons hA
  obtain ⟨v1, vs1, d1, ds1, p1, q1, rfl, rfl, rfl, h1, r1⟩ := trodAll_cons r0
  obtain ⟨v2, vs2, d2, ds2, p2, q2, rfl, rfl, rfl, h2, r2⟩ := trodAll_cons r1
  obtain ⟨rfl, rfl, rfl⟩ := trodAll_nil r2
  obtain rfl : args = #[v0, v1, v2] := by cases args; simp_all
  obtain ⟨rfl, rfl⟩ := trodVars_none hV
  have k0 := h0
  have lt0 : ∀ x ∈ p0, x.block < W.heap.size := by obtain ⟨m, hm⟩ := k0; exact DataW.trod_lt m _ _ _ hm
  have k1 := h1
  have lt1 : ∀ x ∈ p1, x.block < W.heap.size := by obtain ⟨m, hm⟩ := k1; exact DataW.trod_lt m _ _ _ hm
  have k2 := h2
  have lt2 : ∀ x ∈ p2, x.block < W.heap.size := by obtain ⟨m, hm⟩ := k2; exact DataW.trod_lt m _ _ _ hm
  obtain ⟨a0, c0, x0, rfl, s0, n0, l0, z0⟩ := open_flts (hval 0 22 v0 rfl rfl) h0 (fun x hx => by simpa using List.all_eq_true.1 hsz _ (DataW.weights_mem_each (j := 0) rfl rfl x hx))
  obtain ⟨f1, rfl, y1, z1⟩ := open_filt (hval 1 25 v1 rfl rfl) h1 (fun x hx => by simpa using List.all_eq_true.1 hsz _ (DataW.weights_mem_each (j := 1) rfl rfl x hx))
  obtain ⟨a2, rfl, rfl, rfl, w2⟩ := open_int Try.underlying27 (hval 2 27 v2 rfl rfl) h2
  clear hA0
  refine (walk W a0 c0 x0 s0 n0 l0 z0 f1 y1 z1 a2 (bounds_u32 w2)).mono fun e W' ⟨he, bel⟩ => ?_
  subst he
  exact ⟨_, rfl, _, _, _, [], _, [], hW', trodAll_mk1 (shut_bool Try.underlying4 _), (trodAll_cons_mk (Below.trod laidOut (by kernel_rfl) (of_decide_eq_true (by kernel_rfl)) k0 bel lt0) (trodAll_cons_mk (Below.trod laidOut (by kernel_rfl) (of_decide_eq_true (by kernel_rfl)) k1 bel lt1) (trodAll_cons_mk (Below.trod laidOut (by kernel_rfl) (of_decide_eq_true (by kernel_rfl)) k2 bel lt2) trodAll_mk0))), rfl, bel.frame _, fun h => by cases h⟩

set_option maxRecDepth 100000 in
theorem lifted (os : Os) (started : os.Started) (H : Type) (enc : TypeId × Value → H) :
    ReturnsInHanded {} Try.checked os 3 .any (Rows.setMoreSpec.pre6 enc Try.prog Try.f3 Rows.setMoreRow.domain false) (Rows.setMoreSpec.post enc Try.prog Try.f3 false true false false) := by
  refine returnsInHanded_of_change_sized (C := Try.checked) own started (by kernel_rfl) Try.func3
    (ChangeSpec.witness6 (enc := enc) (C := Try.checked) false ⟨#[], #[(.slice none 0 0), (.agg #[.bool false, .slice none 0 0]), (.int .u32 0)], []⟩ 8 (by kernel_rfl) (by kernel_rfl) (by kernel_rfl) (by kernel_rfl)) ?_
  intro W base args ds gs before hval hW hcnd hsz _
  exact contract H enc W base args ds gs before hval hW hsz
theorem said : Rows.SetMoreSaid :=
  OpenClaim.holds_of_wide 3 Try.f3 rfl rfl rfl rfl rfl rfl rfl ⟨rfl, rfl, rfl, rfl, rfl⟩ rfl rfl rfl rfl rfl (by kernel_rfl) Try.func3 (by kernel_rfl)
    (of_decide_eq_true (by kernel_rfl)) (by unfold Func.isWrapper; first | (rw [if_pos (by decide +kernel)]; kernel_rfl) | (rw [if_neg (by decide +kernel)]; exact ⟨rfl, rfl⟩))
    (fun os started H enc _ => lifted os started H enc)
#print axioms said
end Go.Proofs.Ytmcbbccbonadjaa.setMore
