/- Rows of bytes that a call itself made. -/
import Derived.Test.YthmejokjbkkfbaaBy
import Derived.Deep.OwnRows
import Derived.Laws.CopyOwn
import Derived.Laws.AppendOwnNone
import Derived.Maps.AppendAt
namespace Go.Proofs.Ythmejokjbkkfbaa
set_option linter.unusedVariables false
open Go.RowKit

theorem info8 : (Try.prog.info? 5).map (fun i => (i.zero, i.size, i.bytes)) = some (some (.int .u8 0), 1, 1) := by kernel_rfl
theorem infos8 : (Try.prog.info? 5).map (·.size) = some 1 := by kernel_rfl
def vb (xs : List Int) : List Value := xs.map (Value.int .u8)
theorem add_flat (b o j : Nat) : (⟨b, o, none⟩ : Addr).add j = ⟨b, o + j, none⟩ := by simp [Addr.add]
theorem vb_len (xs : List Int) : (vb xs).length = xs.length := by simp [vb]
theorem vb_oneCell (xs : List Int) : ∀ v ∈ vb xs, v.oneCell' = true := by
  intro v hv
  simp only [vb, List.mem_map] at hv
  obtain ⟨x, _, rfl⟩ := hv
  rfl
theorem vb_get {xs : List Int} {j : Nat} {v : Value} (h : (vb xs)[j]? = some v) : j < xs.length ∧ v = .int .u8 (xs.getD j 0) := by
  have hj : j < (vb xs).length := (List.getElem?_eq_some_iff.1 h).1
  rw [vb_len] at hj
  refine ⟨hj, ?_⟩
  rw [vb, List.getElem?_map, List.getElem?_eq_getElem hj] at h
  simp at h
  rw [← h, List.getD_eq_getElem?_getD, List.getElem?_eq_getElem hj]; rfl
/-- Block g is a row of the bytes xs, none frozen. -/
def Ob (w : World) (g : Nat) (xs : List Int) : Prop := w.rowIs g 5 xs.length (fun i => .int .u8 (xs.getD i 0))
namespace Ob
variable {w w' : World} {g : Nat} {xs : List Int}
theorem cell (h : Ob w g xs) {k : Nat} (hk : k < xs.length) : w.cell? ⟨g, k, none⟩ = some (.int .u8 (xs.getD k 0)) := World.rowIs.cell h hk
theorem frozen (h : Ob w g xs) (k : Nat) : w.frozen? ⟨g, k, none⟩ = false := World.rowIs.frozen h k
theorem lt (h : Ob w g xs) : g < w.heap.size := World.rowIs.lt h
theorem of_block (h : Ob w g xs) (e : w'.heap[g]? = w.heap[g]?) : Ob w' g xs := World.rowIs.of_block h e
theorem alloc (h : Ob w g xs) (o : Obj) : Ob (w.alloc o) g xs := World.rowIs.alloc h o
theorem drewN (h : Ob w g xs) (n : Nat) : Ob (w.drewN n) g xs := h
theorem below {B : Nat} (h : Ob w g xs) (hb : Below B w w') (hg : g < B) : Ob w' g xs := h.of_block (hb.block g hg)
theorem set (h : Ob w g xs) (k : Nat) (v : Int) (hk : k < xs.length) : Ob (w.setCell ⟨g, k, none⟩ (.int .u8 v)) g (xs.set k v) := by
  have h1 := World.rowIs.set h k (.int .u8 v)
  unfold Ob
  rw [List.length_set]
  refine h1.congr fun i hi => ?_
  by_cases e : i = k
  · subst e; simp [hi]
  · rw [if_neg e, List.getD_eq_getElem?_getD, List.getD_eq_getElem?_getD, List.getElem?_set_ne (fun h => e h.symm)]
theorem bs (h : Ob w g xs) (hb : ∀ k, k < xs.length → 0 ≤ xs.getD k 0 ∧ xs.getD k 0 ≤ 255) : Bs w (some ⟨g, 0, none⟩) xs :=
  ⟨.inr ⟨g, 0, rfl, fun k hk => by rw [Nat.zero_add]; exact h.cell hk⟩, hb⟩
theorem of_heap (h : w.heap[g]? = some (.cells (vb xs).toArray 5 (0, 0))) : Ob w g xs :=
  ⟨_, h, by simp [vb], fun i hi => by simp [vb, hi]⟩
theorem heap (h : Ob w g xs) : w.heap[g]? = some (.cells (vb xs).toArray 5 (0, 0)) := by
  obtain ⟨c, hc, hn, he⟩ := h
  rw [hc]
  have : c = (vb xs).toArray := by
    apply Array.ext_getElem?
    intro i
    by_cases hi : i < xs.length
    · rw [he i hi]; simp [vb, hi]
    · rw [Array.getElem?_eq_none (by omega), Array.getElem?_eq_none (by simp [vb]; omega)]
  rw [this]
theorem made (w : World) (n : Nat) : Ob (w.alloc (.cells (madeCells #[.int .u8 0] n) 5)) w.heap.size (List.replicate n 0) := by
  have h := World.rowIs_made w (.int .u8 0) n 5
  unfold Ob
  rw [List.length_replicate]
  exact h.congr fun i hi => by simp [hi]
end Ob
/-- Block g begins with the bytes xs, none frozen. -/
def Og (w : World) (g : Nat) (xs : List Int) : Prop := ∃ c : Array Value, w.heap[g]? = some (.cells c 5 (0, 0)) ∧ xs.length ≤ c.size ∧ ∀ i, i < xs.length → c[i]? = some (.int .u8 (xs.getD i 0))
namespace Og
variable {w w' : World} {g : Nat} {xs : List Int}
theorem cell (h : Og w g xs) {k : Nat} (hk : k < xs.length) : w.cell? ⟨g, k, none⟩ = some (.int .u8 (xs.getD k 0)) := by
  obtain ⟨c, hb, _, hc⟩ := h
  simp [World.cell?, hb, hc k hk]
theorem frozen (h : Og w g xs) (k : Nat) : w.frozen? ⟨g, k, none⟩ = false := by
  obtain ⟨c, hb, _, _⟩ := h
  simp [World.frozen?, hb]
theorem lt (h : Og w g xs) : g < w.heap.size := by
  obtain ⟨c, hb, _, _⟩ := h
  exact (Array.getElem?_eq_some_iff.1 hb).1
theorem of_block (h : Og w g xs) (e : w'.heap[g]? = w.heap[g]?) : Og w' g xs := by
  obtain ⟨c, hb, h2⟩ := h
  exact ⟨c, e.trans hb, h2⟩
theorem below {B : Nat} (h : Og w g xs) (hb : Below B w w') (hg : g < B) : Og w' g xs := h.of_block (hb.block g hg)
theorem set (h : Og w g xs) (k : Nat) (v : Int) (hk : k < xs.length) : Og (w.setCell ⟨g, k, none⟩ (.int .u8 v)) g (xs.set k v) := by
  obtain ⟨c, hb, hn, hc⟩ := h
  refine ⟨c.setIfInBounds k (.int .u8 v), ?_, by simpa using hn, fun j hj => ?_⟩
  · simp [World.setCell, Array.getElem?_modify, hb]
  · rw [List.length_set] at hj
    rw [Array.getElem?_setIfInBounds]
    by_cases e : k = j
    · subst e
      rw [if_pos rfl, if_pos (by omega)]; simp [hj]
    · rw [if_neg e, hc j hj, List.getD_eq_getElem?_getD, List.getD_eq_getElem?_getD, List.getElem?_set_ne e]
theorem bs (h : Og w g xs) (hb : ∀ k, k < xs.length → 0 ≤ xs.getD k 0 ∧ xs.getD k 0 ≤ 255) : Bs w (some ⟨g, 0, none⟩) xs :=
  ⟨.inr ⟨g, 0, rfl, fun k hk => by rw [Nat.zero_add]; exact h.cell hk⟩, hb⟩
/-- What append made. -/
theorem owned {B n : Nat} {v : Value} (h : w.ownsRow B 5 1 v n (vb xs)) (hn : 0 < n) : ∃ g cap, v = .slice (some ⟨g, 0, none⟩) n cap ∧ B ≤ g ∧ Og w g xs := by
  obtain ⟨hl, h⟩ := h
  rw [vb_len] at hl
  rcases h with ⟨_, rfl⟩ | ⟨g, cap, cur, rfl, hB, hg, hnc, _, hsz, htk⟩
  · omega
  · refine ⟨g, cap, rfl, hB, cur, hg, by omega, fun i hi => ?_⟩
    have h1 : (cur.toList.take (n * 1))[i]? = some (.int .u8 (xs.getD i 0)) := by rw [htk]; simp [vb, hi]
    rw [List.getElem?_take_of_lt (by omega)] at h1
    simpa using h1
end Og
theorem own_ge {w : World} {B n : Nat} {e : TypeId} {v : Value} {l : List Value} (h : w.ownsRow B e 1 v n l) : ∀ k, v.ownBlock = some k → B ≤ k := by
  intro k hk
  rcases h.2 with ⟨rfl, _⟩ | ⟨g, cap, cur, rfl, hB, _⟩
  · simp [Value.ownBlock] at hk
  · simp [Value.ownBlock] at hk
    omega
/-- What an append of one, whose operand lay in a new block, leaves. -/
theorem app_below {w0 wr w1 : World} {B n : Nat} {e : TypeId} {v : Value} {l : List Value} {o : Obj} (hb : Below B w0 wr) (hB : B ≤ wr.heap.size) (hown : wr.ownsRow B e 1 v n l) (hg : (wr.alloc o).grownBy w1 v.ownBlock) : Below B w0 w1 :=
  (hb.alloc hB o).grown hg (by simp; omega) (own_ge hown)
theorem vb_snoc (xs : List Int) (k : Nat) (hk : k < xs.length) : vb (xs.take k) ++ [.int .u8 (xs.getD k 0)] = vb (xs.take (k + 1)) := by
  rw [List.take_succ_eq_append_getElem hk, vb, vb, List.map_append, List.getD_eq_getElem?_getD, List.getElem?_eq_getElem hk]; rfl
/-- A slice of the call's own (blocks from B on) that holds the bytes xs; it may be appended to. -/
def Ow (w : World) (B : Nat) (a : Option Addr) (n cap : Nat) (xs : List Int) : Prop := w.ownsRow B 5 1 (.slice a n cap) n (vb xs) ∧ xs.length = n
namespace Ow
variable {w w' : World} {B n cap : Nat} {a : Option Addr} {xs : List Int}
theorem len (h : Ow w B a n cap xs) : xs.length = n := h.2
theorem nil (h : Ow w B a n cap xs) : a = none → n = 0 ∧ cap = 0 := by
  rintro rfl
  rcases h.1.2 with ⟨e, h0⟩ | ⟨g, c, cur, e, _⟩
  · simp at e; exact e
  · simp at e
theorem og (h : Ow w B a n cap xs) (hn : 0 < n) : ∃ g, a = some ⟨g, 0, none⟩ ∧ B ≤ g ∧ Og w g xs := by
  obtain ⟨g, c, e, hB, ho⟩ := Og.owned h.1 hn
  simp at e
  exact ⟨g, e.1, hB, ho⟩
theorem bs (h : Ow w B a n cap xs) (hb : ∀ k, k < xs.length → 0 ≤ xs.getD k 0 ∧ xs.getD k 0 ≤ 255) : Bs w a xs := by
  rcases Nat.eq_zero_or_pos n with rfl | hn
  · exact ⟨.inl (List.eq_nil_of_length_eq_zero h.2), hb⟩
  · obtain ⟨g, rfl, _, ho⟩ := h.og hn
    exact ho.bs hb
theorem empty (w : World) (hB : B ≤ w.heap.size) : Ow (w.alloc (.cells #[] 5)) B (some ⟨w.heap.size, 0, none⟩) 0 0 [] :=
  ⟨⟨rfl, .inr ⟨w.heap.size, 0, #[], rfl, hB, Go.Deep.blk_alloc_new _ _, Nat.le_refl _, by unfold maxLen; omega, rfl, rfl⟩⟩, rfl⟩
theorem alloc (h : Ow w B a n cap xs) (o : Obj) : Ow (w.alloc o) B a n cap xs := ⟨h.1.alloc o, h.2⟩
theorem below {C : Nat} (h : Ow w B a n cap xs) (hb : Below C w w') (hC : w.heap.size ≤ C) : Ow w' B a n cap xs := by
  refine ⟨⟨h.1.1, ?_⟩, h.2⟩
  rcases h.1.2 with e | ⟨g, c, cur, e, h1, h2, h3⟩
  · exact .inl e
  · exact .inr ⟨g, c, cur, e, h1, (hb.block g (Nat.lt_of_lt_of_le (Array.getElem?_eq_some_iff.1 h2).1 hC)).trans h2, h3⟩
end Ow
theorem vb_append (xs ys : List Int) : vb (xs ++ ys) = vb xs ++ vb ys := by simp [vb]
/-- append(own, src...), src whatever holds bytes. -/
theorem wpList_app_bs {w : World} {ops : Array Oper} {rest : List Oper} {o : Oper} {a : Act} {Q : Exit → Act → World → Prop} (hgd : o.guard = none) (s x : Operand)
    (ho : o.op = .call { callee := .builtin .append, args := #[s, x], argTypes := #[27, 27] }) (B : Nat) (a1 : Option Addr) (n cap : Nat) (xs : List Int) (hs : a.eval s = .slice a1 n cap) (hown : Ow w B a1 n cap xs)
    (a2 : Option Addr) (m c : Nat) (ys : List Int) (hx : a.eval x = .slice a2 m c) (hy : ys.length = m) (hb : Bs w a2 ys) (hnil : a2 = none → m = 0 ∧ c = 0) (hsz : n + m ≤ 1000000) (w0 : World) (hB : B ≤ w.heap.size) (hbel : Below B w0 w)
    (h : ∀ a' cap' w', Hid (Ow w' B a' (n + m) cap' (xs ++ ys)) → Below B w0 w' → wpList Try.prog ops Q rest (a.put o.dst (.slice a' (n + m) cap')) w') : wpList Try.prog ops Q (o :: rest) a w := by
  obtain ⟨i0, hi, hz0, hz1, hz2⟩ := info_parts info8
  rcases ha : a2 with _ | ad
  · obtain ⟨rfl, rfl⟩ := hnil ha
    obtain rfl : ys = [] := List.eq_nil_of_length_eq_zero hy
    refine wpList_append_own_none hgd s x 27 ho B 5 i0 1 Try.underlying27 hi _ n (vb xs) hs hown.1 (by rw [hx, ha]) ?_
    have := h a1 cap w (by rw [List.append_nil]; exact hown) hbel
    simpa using this
  · refine wpList_append_own w hgd s x 27 ho B 5 i0 (.int .u8 0) 1 1 Try.underlying27 hi hz0 hz1 hz2 rfl (by decide) _ n (vb xs) hs hown.1 ad m c (vb ys) (by rw [hx, ha]) (by rw [vb_len, hy]; omega) ?_ (vb_oneCell ys) (by unfold maxLen; omega) (by omega) hB ?_
    · intro j u hu
      obtain ⟨hj, rfl⟩ := vb_get hu
      rcases hb.1 with rfl | ⟨b, off, e, hc⟩
      · simp at hj
      · rw [ha] at e; cases e
        rw [add_flat]; exact hc j hj
    · intro v' w' hown' hgrow _
      have hbel' : Below B w0 w' := hbel.grown hgrow hB (own_ge hown.1)
      have hl : (xs ++ ys).length = n + m := by rw [List.length_append, hown.2, hy]
      rw [← vb_append] at hown'
      rcases hown'.2 with ⟨rfl, e0⟩ | ⟨g, cap', cur, rfl, _⟩
      · have := h none 0 w' ⟨by rw [e0] at hown' ⊢; exact hown', hl⟩ hbel'
        rw [e0] at this; exact this
      · exact h _ cap' w' ⟨hown', hl⟩ hbel'
/-- Copied whole. -/
theorem splice_vb (ys xs : List Int) (h : ys.length = xs.length) : splice (vb ys) 0 (vb xs) = vb xs := by
  unfold splice
  rw [List.take_zero, List.nil_append, Nat.zero_add, List.drop_eq_nil_of_le (by rw [vb_len, vb_len]; omega), List.append_nil]
theorem vb_one (xs : List Int) : ∀ v ∈ vb xs, v.oneCell' = true := by
  intro v hv
  simp only [vb, List.mem_map] at hv
  obtain ⟨x, _, rfl⟩ := hv
  rfl
/-- The source of a copy. -/
theorem vb_src {w : World} {a : Option Addr} {xs : List Int} (h : Bs w a xs) (hp : 0 < (vb xs).length) : ∃ ad, a = some ad ∧ ∀ j v, (vb xs)[j]? = some v → w.cell? (ad.add j) = some v := by
  rw [vb_len] at hp
  rcases h.1 with rfl | ⟨b, off, rfl, hc⟩
  · simp at hp
  · refine ⟨_, rfl, fun j v hv => ?_⟩
    obtain ⟨hj, rfl⟩ := vb_get hv
    have := hc j hj
    rwa [add_flat]
end Go.Proofs.Ythmejokjbkkfbaa
