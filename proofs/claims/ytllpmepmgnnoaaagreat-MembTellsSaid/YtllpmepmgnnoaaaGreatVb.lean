/- Rows of sources that are kept: in memory, and of a call's own; which of them stay. -/
import Derived.Test.YtllpmepmgnnoaaaGreatVa
import Derived.Test.YtllpmepmgnnoaaaGreatPh
namespace Go.Proofs.YtllpmepmgnnoaaaGreat
set_option linter.unusedVariables false
open Go.RowKit

def InS (s : List Hd) : Prop := ∀ x ∈ s, (0 ≤ x.1 ∧ x.1 ≤ 4294967295) ∧ -9223372036854775808 ≤ x.2 ∧ x.2 ≤ 9223372036854775807
def HAt (w : World) (b o : Nat) (x : Hd) : Prop := w.cell? ⟨b, o, none⟩ = some (.int .u32 x.1) ∧ w.cell? ⟨b, o + 1, none⟩ = some (.int .i64 x.2)
theorem HAt.below {w w' : World} {b o : Nat} {x : Hd} (h : HAt w b o x) (hb : Below w.heap.size w w') : HAt w' b o x := ⟨(hb.cell (cell_lt h.1)).trans h.1, (hb.cell (cell_lt h.2)).trans h.2⟩
/-- A slice of sources that are kept. -/
def Hs (w : World) (a : Option Addr) (s : List Hd) : Prop := (s = [] ∨ ∃ b off, a = some ⟨b, off, none⟩ ∧ ∀ (k : Nat) x, s[k]? = some x → HAt w b (off + k * 2) x) ∧ InS s
theorem Hs.below {w w' : World} {a : Option Addr} {s : List Hd} (h : Hs w a s) (hb : Below w.heap.size w w') : Hs w' a s := by
  refine ⟨?_, h.2⟩
  rcases h.1 with h1 | ⟨b, off, e, hc⟩
  · exact .inl h1
  · exact .inr ⟨b, off, e, fun k x hk => (hc k x hk).below hb⟩
theorem Hs.at {w : World} {a : Option Addr} {s : List Hd} (h : Hs w a s) {k : Nat} (hk : k < s.length) : ∃ b off, a = some ⟨b, off, none⟩ ∧ ∀ (k : Nat) x, s[k]? = some x → HAt w b (off + k * 2) x := by
  rcases h.1 with rfl | h1
  · exact absurd hk (by simp)
  · exact h1
theorem Hs.nil (w : World) (a : Option Addr) : Hs w a [] := ⟨.inl rfl, fun x h => absurd h (by simp)⟩
theorem ins_ad {s : List Hd} (h : InS s) : ∀ x ∈ ad s, 0 ≤ x ∧ x ≤ 4294967295 := by
  intro x hx
  obtain ⟨y, hy, rfl⟩ := List.mem_map.1 hx
  exact (h y hy).1
theorem ins_filter {s : List Hd} (p : Hd → Bool) (h : InS s) : InS (s.filter p) := fun x hx => h x (List.mem_filter.1 hx).1
def hcs (x : Hd) : List Value := [.int .u32 x.1, .int .i64 x.2]
def hv (s : List Hd) : List Value := s.flatMap hcs
theorem hv_append (a b : List Hd) : hv (a ++ b) = hv a ++ hv b := by simp [hv]
theorem hv_one' (x : Hd) : hv [x] = hcs x := by simp [hv]
theorem hv_len (s : List Hd) : (hv s).length = s.length * 2 := by
  induction s with
  | nil => rfl
  | cons x r ih => simp only [hv, List.flatMap_cons, List.length_append, List.length_cons] at *; rw [ih]; simp [hcs]; omega
theorem hv_at (s : List Hd) : ∀ (k : Nat) (x : Hd), s[k]? = some x → ∀ j, j < 2 → (hv s)[k * 2 + j]? = (hcs x)[j]? := by
  induction s with
  | nil => intro k s h; simp at h
  | cons t r ih =>
    intro k x h j hj
    have e : hv (t :: r) = hcs t ++ hv r := by simp [hv]
    rw [e]
    cases k with
    | zero =>
      simp at h; subst h
      rw [List.getElem?_append_left (by simp [hcs]; omega)]
      simp
    | succ k =>
      have h' : r[k]? = some x := by simpa using h
      rw [List.getElem?_append_right (by simp [hcs]; omega)]
      rw [show (k + 1) * 2 + j - (hcs t).length = k * 2 + j by simp [hcs]; omega]
      exact ih k x h' j hj
theorem hcs_one (x : Hd) : ∀ u ∈ hcs x, u.oneCell' = true := by
  intro u hu
  simp only [hcs, List.mem_cons, List.not_mem_nil, or_false] at hu
  rcases hu with rfl | rfl <;> rfl
theorem hv_one (s : List Hd) : ∀ u ∈ hv s, u.oneCell' = true := by
  intro u hu
  obtain ⟨x, _, h⟩ := List.mem_flatMap.1 hu
  exact hcs_one x u h
theorem Hs.cell {w : World} {b off : Nat} {s : List Hd} (h : Hs w (some ⟨b, off, none⟩) s) : ∀ j u, (hv s)[j]? = some u → w.cell? ⟨b, off + j, none⟩ = some u := by
  intro j u hu
  have hj : j < s.length * 2 := by rw [← hv_len]; exact (List.getElem?_eq_some_iff.1 hu).1
  obtain ⟨b', off', e, hc⟩ := h.at (k := j / 2) (by omega)
  cases e
  obtain ⟨x, hs⟩ : ∃ x, s[j / 2]? = some x := ⟨_, List.getElem?_eq_getElem (by omega)⟩
  obtain ⟨c0, c1⟩ := hc _ x hs
  have h1 := hv_at s (j / 2) x hs (j % 2) (by omega)
  rw [show j / 2 * 2 + j % 2 = j by omega, hu] at h1
  have h2 : j % 2 = 0 ∨ j % 2 = 1 := by omega
  rcases h2 with h2 | h2
  · rw [h2] at h1; simp [hcs] at h1; rw [h1, show off + j = off + j / 2 * 2 by omega]; exact c0
  · rw [h2] at h1; simp [hcs] at h1; rw [h1, show off + j = off + j / 2 * 2 + 1 by omega]; exact c1
/-- What a row of the call's own holds. -/
theorem kown_at {w : World} {B n size : Nat} {e : TypeId} {a : Option Addr} {c : Nat} {xs : List Value} (h : w.ownsRow B e size (.slice a n c) n xs) (hn : 0 < n) : ∃ g, a = some ⟨g, 0, none⟩ ∧ B ≤ g ∧ n ≤ c ∧ ∀ j u, xs[j]? = some u → w.cell? ⟨g, j, none⟩ = some u := by
  obtain ⟨hl, h⟩ := h
  rcases h with ⟨_, e⟩ | ⟨g, cap, cur, e, hB, hg, hnc, _, hsz, htk⟩
  · omega
  · simp at e
    obtain ⟨rfl, rfl⟩ := e
    refine ⟨g, rfl, hB, hnc, fun j u hu => ?_⟩
    have hj : j < n * size := by have := (List.getElem?_eq_some_iff.1 hu).1; omega
    rw [← htk, List.getElem?_take_of_lt hj] at hu
    simp [World.cell?, hg]
    simpa using hu
theorem own_hs {w : World} {B n : Nat} {a : Option Addr} {c : Nat} {s : List Hd} (h : w.ownsRow B 50 2 (.slice a n c) n (hv s)) (hn : s.length = n) (hf : InS s) : Hs w a s := by
  refine ⟨?_, hf⟩
  by_cases h0 : n = 0
  · exact .inl (List.eq_nil_of_length_eq_zero (by omega))
  obtain ⟨g, rfl, _, _, hc⟩ := kown_at h (by omega)
  refine .inr ⟨g, 0, rfl, fun k x hk => ⟨?_, ?_⟩⟩
  · exact hc (0 + k * 2) _ (by rw [Nat.zero_add]; exact hv_at s k x hk 0 (by omega))
  · exact hc (0 + k * 2 + 1) _ (by rw [Nat.zero_add]; exact hv_at s k x hk 1 (by omega))
/-- Sources elsewhere stay. -/
theorem Hs.other {w w' : World} {X : Nat} {a : Option Addr} {s : List Hd} (h : Hs w a s) (hn : ∀ o x y, w.cell? ⟨X, o, none⟩ = some (.int .u32 x) → w.cell? ⟨X, o + 1, none⟩ ≠ some (.int .i64 y)) (hb : But1 X w w') : Hs w' a s := by
  refine ⟨?_, h.2⟩
  rcases h.1 with h1 | ⟨b, off, e, hc⟩
  · exact .inl h1
  · refine .inr ⟨b, off, e, fun k x hk => ?_⟩
    obtain ⟨h0, h1⟩ := hc k x hk
    have hne : b ≠ X := fun e => by subst e; exact hn _ _ _ h0 h1
    exact ⟨(hb.cell (cell_lt h0) hne).trans h0, (hb.cell (cell_lt h1) hne).trans h1⟩
/-- .. and their row is one of sources. -/
def HT (w : World) (a : Option Addr) (s : List Hd) : Prop := Hs w a s ∧ (s = [] ∨ ∃ b off cs p, a = some ⟨b, off, none⟩ ∧ w.heap[b]? = some (.cells cs 50 p))
theorem HT.below {w w' : World} {a : Option Addr} {s : List Hd} (h : HT w a s) (hb : Below w.heap.size w w') : HT w' a s := by
  refine ⟨h.1.below hb, ?_⟩
  rcases h.2 with h1 | ⟨b, off, cs, p, e, h1⟩
  · exact .inl h1
  · exact .inr ⟨b, off, cs, p, e, (hb.block _ (Array.getElem?_eq_some_iff.1 h1).1).trans h1⟩
theorem HT.other {w w' : World} {X : Nat} {a : Option Addr} {s : List Hd} (h : HT w a s) (hn : ∀ o x y, w.cell? ⟨X, o, none⟩ = some (.int .u32 x) → w.cell? ⟨X, o + 1, none⟩ ≠ some (.int .i64 y)) (hb : But1 X w w') : HT w' a s := by
  refine ⟨h.1.other hn hb, ?_⟩
  rcases h.2 with h1 | ⟨b, off, cs, p, e, h1⟩
  · exact .inl h1
  · by_cases h0 : s = []
    · exact .inl h0
    · refine .inr ⟨b, off, cs, p, e, (hb.block _ (Array.getElem?_eq_some_iff.1 h1).1 ?_).trans h1⟩
      obtain ⟨b', off', e', hc⟩ := h.1.at (List.length_pos_iff.2 h0)
      rw [e] at e'
      cases e'
      obtain ⟨q0, q1⟩ := hc 0 _ (List.getElem?_eq_getElem (List.length_pos_iff.2 h0))
      intro e2
      subst e2
      exact hn _ _ _ q0 q1
theorem HT.grown {w w' : World} {a : Option Addr} {s : List Hd} (h : HT w a s) {B size n : Nat} {e : TypeId} {v : Value} {xs : List Value} (ho : w.ownsRow B e size v n xs) (hne : 50 ≠ e) (hg : w.grownBy w' v.ownBlock) : HT w' a s := by
  have key : ∀ b off cs p, a = some ⟨b, off, none⟩ → w.heap[b]? = some (.cells cs 50 p) → w'.heap[b]? = w.heap[b]? := by
    intro b off cs p _ h1
    refine hg.block b (Array.getElem?_eq_some_iff.1 h1).1 fun e2 => ?_
    rcases ho.2 with ⟨rfl, _⟩ | ⟨g2, cap2, cur2, rfl, _, hb2, _⟩
    · simp [Value.ownBlock] at e2
    · obtain rfl : g2 = b := by simpa [Value.ownBlock, eq_comm] using e2
      rw [h1] at hb2
      simp only [Option.some.injEq, Obj.cells.injEq] at hb2
      exact hne hb2.2.1
  rcases h.2 with h1 | ⟨b, off, cs, p, e1, h1⟩
  · exact ⟨⟨.inl h1, h.1.2⟩, .inl h1⟩
  · have hk := key b off cs p e1 h1
    refine ⟨⟨?_, h.1.2⟩, .inr ⟨b, off, cs, p, e1, hk.trans h1⟩⟩
    rcases h.1.1 with h2 | ⟨b', off', e', hc⟩
    · exact .inl h2
    · rw [e1] at e'
      cases e'
      exact .inr ⟨b, off, e1, fun k x hx => ⟨(World.cell?_of_block (w := w) hk).trans (hc k x hx).1, (World.cell?_of_block (w := w) hk).trans (hc k x hx).2⟩⟩
theorem own_ht {w : World} {B n : Nat} {a : Option Addr} {c : Nat} {s : List Hd} (h : w.ownsRow B 50 2 (.slice a n c) n (hv s)) (hn : s.length = n) (hf : InS s) : HT w a s := by
  refine ⟨own_hs h hn hf, ?_⟩
  rcases h.2 with ⟨_, e⟩ | ⟨g, cap, cur, e, _, hg, _⟩
  · exact .inl (List.eq_nil_of_length_eq_zero (by omega))
  · simp at e
    exact .inr ⟨g, 0, cur, _, e.1, hg⟩
/-- A row of sources of the call's own that is handed back. -/
def OutK (w : World) (e : Ending) (w' : World) (s : List Hd) : Prop := (∃ a c, e = .returned (.slice a s.length c) ∧ w'.ownsRow w.heap.size 50 2 (.slice a s.length c) s.length (hv s)) ∧ Below w.heap.size w w'
theorem infoHd : (Tryz.prog.info? 50).map (fun i => (i.zero, i.size, i.bytes)) = some (some (.agg #[.int .u32 0, .int .i64 0]), 2, 16) := by kernel_rfl
theorem held_new (w : World) (v0 v1 : Value) : (w.alloc (.cells #[v0, v1] 50)).cell? ⟨w.heap.size, 0, none⟩ = some v0 ∧ (w.alloc (.cells #[v0, v1] 50)).cell? ⟨w.heap.size, 1, none⟩ = some v1 := by
  have hN := Go.Deep.blk_alloc_new w (.cells #[v0, v1] 50)
  exact ⟨by simp only [World.cell?, hN]; rfl, by simp only [World.cell?, hN]; rfl⟩
theorem takeH {α : Type} {l : List α} {k : Nat} {x : α} (h : l[k]? = some x) : l.take (k + 1) = l.take k ++ [x] := by
  rw [List.take_add_one, h]; rfl
theorem filt_yes {s : List Hd} {p : Hd → Bool} {k : Nat} {x : Hd} (h : s[k]? = some x) (hp : p x = true) : (s.take (k + 1)).filter p = (s.take k).filter p ++ [x] := by
  rw [takeH h, List.filter_append]; simp [hp]
theorem filt_no {s : List Hd} {p : Hd → Bool} {k : Nat} {x : Hd} (h : s[k]? = some x) (hp : p x = false) : (s.take (k + 1)).filter p = (s.take k).filter p := by
  rw [takeH h, List.filter_append]; simp [hp]
theorem filt_len (s : List Hd) (p : Hd → Bool) (k : Nat) : ((s.take k).filter p).length ≤ s.length :=
  Nat.le_trans (List.length_filter_le _ _) (List.length_take_le' _ _)
theorem as_new' (w : World) (xs : List Int) (h : IsA xs) : As (w.alloc (.cells (va xs).toArray 25)) (some ⟨w.heap.size, 0, none⟩) xs := by
  refine ⟨.inr ⟨_, _, rfl, fun k hk => ?_⟩, h⟩
  rw [Nat.zero_add, cell_new]
  simp [va, List.getD_eq_getElem?_getD, hk]
set_option maxRecDepth 100000 in
set_option maxHeartbeats 4000000 in
/-- Which sources stay, as (stolon/memb.hearing).keep$1 tells. -/
theorem mThoseK (v1 : Value) (p : Hd → Bool) (a : Option Addr) (n c : Nat) (s : List Hd) (w : World) (hx : s.length = n) (hn : n ≤ 100000) (hH : Hs w a s)
    (hcall : ∀ (w1 : World) (x : Hd), Below w.heap.size w w1 → x ∈ s → Calls Tryz.prog 68 #[.agg #[.int .u32 x.1, .int .i64 x.2], v1] w1 fun e w' => e = .returned (.bool (p x)) ∧ Below w1.heap.size w1 w') :
    Calls Tryz.prog 40 #[.slice a n c, .func (.func 68) #[] #[v1]] w fun e w' => OutK w e w' (s.filter p) := by
  obtain ⟨i0, hi, hz0, hz1, hz2⟩ := info_parts infoHd
  have HX := Lib.hid hx
  have HH := Lib.hid hH
  have HC := Lib.hid hcall
  clear hx hH hcall
  go_enter Tryz.func40, Tryz.ntmps40
  go_wp2
  go_loopw [5, 10] (fun v5 v10 wr => ∃ (k : Nat) (a5 : Option Addr) (c5 : Nat), v5 = .slice a5 ((s.take k).filter p).length c5 ∧ v10 = .int .i64 (k : Int) ∧ k ≤ n ∧ wr.ownsRow w.heap.size 50 2 (.slice a5 ((s.take k).filter p).length c5) ((s.take k).filter p).length (hv ((s.take k).filter p)) ∧
    Below w.heap.size w wr) (fun _ v _ => n - (intOf v).toNat)
  case atStart => exact ⟨0, none, 0, by simp, rfl, by omega, by simpa [hv] using World.ownsRow_nil _ _ _ _, Below.refl _ _⟩
  case round =>
    obtain ⟨k, a5, c5, rfl, rfl, hk, ho, hB⟩ := hrel
    have HO := Lib.hid ho
    have HB := Lib.hid hB
    have hol : ((s.take k).filter p).length ≤ 100000 := Nat.le_trans (filt_len s p k) (by rw [HX.out]; exact hn)
    clear ho hB
    by_cases hlt : k < n
    · obtain ⟨b, off, rfl, hc⟩ := HH.out.at (k := k) (by rw [HX.out]; exact hlt)
      obtain ⟨⟨x1, x2⟩, hfk⟩ : ∃ x, s[k]? = some x := ⟨_, List.getElem?_eq_getElem (by rw [HX.out]; exact hlt)⟩
      obtain ⟨d0, d1⟩ := (hc k _ hfk).below HB.out
      simp only at d0 d1
      have HFK := Lib.hid hfk
      have hkz : (k : Int) < (n : Int) := by omega
      clear hc hfk
      go_wp2_with fail
      have hb1 := bel1 wr (.cells #[.int .u32 x1, .int .i64 x2] 50)
      have HO1 := Lib.hid (HO.out.alloc (.cells #[.int .u32 x1, .int .i64 x2] 50))
      obtain ⟨e0, e1⟩ := held_new wr (.int .u32 x1) (.int .i64 x2)
      have HB1 := Lib.hid (HB.out.trans (hb1.mono HB.out.size))
      clear hb1 HB HO d0 d1
      generalize wr.alloc (.cells #[.int .u32 x1, .int .i64 x2] 50) = w3 at *
      refine (HC.out w3 (x1, x2) HB1.out (List.mem_of_getElem? HFK.out)).mono ?_
      rintro e w4 ⟨rfl, hb4⟩
      replace e0 := (hb4.cell (cell_lt e0)).trans e0
      replace e1 := (hb4.cell (cell_lt e1)).trans e1
      have HO4 := Lib.hid (own_grown HO1.out hb4 (Nat.le_refl _))
      have HB4 := Lib.hid (HB1.out.trans (hb4.mono HB1.out.size))
      clear hb4 HO1 HB1
      obtain ⟨bs, hbs⟩ : ∃ bs, p (x1, x2) = bs := ⟨_, rfl⟩
      rw [hbs]
      have HBS := Lib.hid hbs
      clear hbs
      cases bs
      · go_wp2_with fail
        go_roundw
        case rel =>
          have e := filt_no HFK.out HBS.out
          exact ⟨k + 1, a5, c5, by rw [e], by go_num, by omega, by rw [e]; exact HO4.out, HB4.out⟩
        case measure => simp [intOf]; omega
      · have hn1 := news_new w4 [.int .u32 x1, .int .i64 x2] 50
        have HN1 := Lib.hid hn1
        clear hn1
        go_wp2_with ((refine wpList_app_cell rfl 26 50 i0 _ 2 16 Tryz.underlying26 hi hz0 hz1 hz2 rfl (by decide) (by omega) (.tmp 17) (.tmp 19) rfl w.heap.size _ ((s.take k).filter p).length (hv ((s.take k).filter p)) rfl (HO4.out.alloc _) ⟨w4.heap.size, 0, none⟩ 1 [.int .u32 x1, .int .i64 x2] rfl rfl HN1.out (by simp [Value.oneCell']) (by omega) (by have := HB4.out.size; simp; omega) ?_; intro a' cap' w' hown hg))
        go_roundw
        case rel =>
          have e := filt_yes HFK.out HBS.out
          refine ⟨k + 1, a', cap', by rw [e, List.length_append]; rfl, by go_num, by omega, ?_, HB4.out.trans (((Below.refl _ w4).alloc HB4.out.size _).trans (grown_below (HO4.out.alloc _) hg.out (by have := HB4.out.size; simp; omega)))⟩
          rw [e, List.length_append, hv_append, hv_one']; exact hown.out
        case measure => simp [intOf]; omega
    · obtain rfl : k = n := by omega
      have htk : s.take k = s := List.take_of_length_le (by rw [HX.out]; exact Nat.le_refl _)
      have HO' := HO.out
      rw [htk] at HO' ⊢
      have HO2 := Lib.hid HO'
      clear HO HO' htk
      go_wp2_with fail
      go_ret
      exact ⟨⟨a5, c5, rfl, HO2.out⟩, HB.out⟩
set_option maxRecDepth 100000 in
set_option maxHeartbeats 4000000 in
/-- Which sources stay, as (stolon/memb.hearing).exclude$1 tells. -/
theorem mThoseX (v1 : Value) (p : Hd → Bool) (a : Option Addr) (n c : Nat) (s : List Hd) (w : World) (hx : s.length = n) (hn : n ≤ 100000) (hH : Hs w a s)
    (hcall : ∀ (w1 : World) (x : Hd), Below w.heap.size w w1 → x ∈ s → Calls Tryz.prog 73 #[.agg #[.int .u32 x.1, .int .i64 x.2], v1] w1 fun e w' => e = .returned (.bool (p x)) ∧ Below w1.heap.size w1 w') :
    Calls Tryz.prog 40 #[.slice a n c, .func (.func 73) #[] #[v1]] w fun e w' => OutK w e w' (s.filter p) := by
  obtain ⟨i0, hi, hz0, hz1, hz2⟩ := info_parts infoHd
  have HX := Lib.hid hx
  have HH := Lib.hid hH
  have HC := Lib.hid hcall
  clear hx hH hcall
  go_enter Tryz.func40, Tryz.ntmps40
  go_wp2
  go_loopw [5, 10] (fun v5 v10 wr => ∃ (k : Nat) (a5 : Option Addr) (c5 : Nat), v5 = .slice a5 ((s.take k).filter p).length c5 ∧ v10 = .int .i64 (k : Int) ∧ k ≤ n ∧ wr.ownsRow w.heap.size 50 2 (.slice a5 ((s.take k).filter p).length c5) ((s.take k).filter p).length (hv ((s.take k).filter p)) ∧
    Below w.heap.size w wr) (fun _ v _ => n - (intOf v).toNat)
  case atStart => exact ⟨0, none, 0, by simp, rfl, by omega, by simpa [hv] using World.ownsRow_nil _ _ _ _, Below.refl _ _⟩
  case round =>
    obtain ⟨k, a5, c5, rfl, rfl, hk, ho, hB⟩ := hrel
    have HO := Lib.hid ho
    have HB := Lib.hid hB
    have hol : ((s.take k).filter p).length ≤ 100000 := Nat.le_trans (filt_len s p k) (by rw [HX.out]; exact hn)
    clear ho hB
    by_cases hlt : k < n
    · obtain ⟨b, off, rfl, hc⟩ := HH.out.at (k := k) (by rw [HX.out]; exact hlt)
      obtain ⟨⟨x1, x2⟩, hfk⟩ : ∃ x, s[k]? = some x := ⟨_, List.getElem?_eq_getElem (by rw [HX.out]; exact hlt)⟩
      obtain ⟨d0, d1⟩ := (hc k _ hfk).below HB.out
      simp only at d0 d1
      have HFK := Lib.hid hfk
      have hkz : (k : Int) < (n : Int) := by omega
      clear hc hfk
      go_wp2_with fail
      have hb1 := bel1 wr (.cells #[.int .u32 x1, .int .i64 x2] 50)
      have HO1 := Lib.hid (HO.out.alloc (.cells #[.int .u32 x1, .int .i64 x2] 50))
      obtain ⟨e0, e1⟩ := held_new wr (.int .u32 x1) (.int .i64 x2)
      have HB1 := Lib.hid (HB.out.trans (hb1.mono HB.out.size))
      clear hb1 HB HO d0 d1
      generalize wr.alloc (.cells #[.int .u32 x1, .int .i64 x2] 50) = w3 at *
      refine (HC.out w3 (x1, x2) HB1.out (List.mem_of_getElem? HFK.out)).mono ?_
      rintro e w4 ⟨rfl, hb4⟩
      replace e0 := (hb4.cell (cell_lt e0)).trans e0
      replace e1 := (hb4.cell (cell_lt e1)).trans e1
      have HO4 := Lib.hid (own_grown HO1.out hb4 (Nat.le_refl _))
      have HB4 := Lib.hid (HB1.out.trans (hb4.mono HB1.out.size))
      clear hb4 HO1 HB1
      obtain ⟨bs, hbs⟩ : ∃ bs, p (x1, x2) = bs := ⟨_, rfl⟩
      rw [hbs]
      have HBS := Lib.hid hbs
      clear hbs
      cases bs
      · go_wp2_with fail
        go_roundw
        case rel =>
          have e := filt_no HFK.out HBS.out
          exact ⟨k + 1, a5, c5, by rw [e], by go_num, by omega, by rw [e]; exact HO4.out, HB4.out⟩
        case measure => simp [intOf]; omega
      · have hn1 := news_new w4 [.int .u32 x1, .int .i64 x2] 50
        have HN1 := Lib.hid hn1
        clear hn1
        go_wp2_with ((refine wpList_app_cell rfl 26 50 i0 _ 2 16 Tryz.underlying26 hi hz0 hz1 hz2 rfl (by decide) (by omega) (.tmp 17) (.tmp 19) rfl w.heap.size _ ((s.take k).filter p).length (hv ((s.take k).filter p)) rfl (HO4.out.alloc _) ⟨w4.heap.size, 0, none⟩ 1 [.int .u32 x1, .int .i64 x2] rfl rfl HN1.out (by simp [Value.oneCell']) (by omega) (by have := HB4.out.size; simp; omega) ?_; intro a' cap' w' hown hg))
        go_roundw
        case rel =>
          have e := filt_yes HFK.out HBS.out
          refine ⟨k + 1, a', cap', by rw [e, List.length_append]; rfl, by go_num, by omega, ?_, HB4.out.trans (((Below.refl _ w4).alloc HB4.out.size _).trans (grown_below (HO4.out.alloc _) hg.out (by have := HB4.out.size; simp; omega)))⟩
          rw [e, List.length_append, hv_append, hv_one']; exact hown.out
        case measure => simp [intOf]; omega
    · obtain rfl : k = n := by omega
      have htk : s.take k = s := List.take_of_length_le (by rw [HX.out]; exact Nat.le_refl _)
      have HO' := HO.out
      rw [htk] at HO' ⊢
      have HO2 := Lib.hid HO'
      clear HO HO' htk
      go_wp2_with fail
      go_ret
      exact ⟨⟨a5, c5, rfl, HO2.out⟩, HB.out⟩
set_option maxRecDepth 100000 in
set_option maxHeartbeats 4000000 in
/-- Which sources stay, as (stolon/memb.hearing).ask$1 tells. -/
theorem mThoseA (v1 : Value) (p : Hd → Bool) (a : Option Addr) (n c : Nat) (s : List Hd) (w : World) (hx : s.length = n) (hn : n ≤ 100000) (hH : Hs w a s)
    (hcall : ∀ (w1 : World) (x : Hd), Below w.heap.size w w1 → x ∈ s → Calls Tryz.prog 74 #[.agg #[.int .u32 x.1, .int .i64 x.2], v1] w1 fun e w' => e = .returned (.bool (p x)) ∧ Below w1.heap.size w1 w') :
    Calls Tryz.prog 40 #[.slice a n c, .func (.func 74) #[] #[v1]] w fun e w' => OutK w e w' (s.filter p) := by
  obtain ⟨i0, hi, hz0, hz1, hz2⟩ := info_parts infoHd
  have HX := Lib.hid hx
  have HH := Lib.hid hH
  have HC := Lib.hid hcall
  clear hx hH hcall
  go_enter Tryz.func40, Tryz.ntmps40
  go_wp2
  go_loopw [5, 10] (fun v5 v10 wr => ∃ (k : Nat) (a5 : Option Addr) (c5 : Nat), v5 = .slice a5 ((s.take k).filter p).length c5 ∧ v10 = .int .i64 (k : Int) ∧ k ≤ n ∧ wr.ownsRow w.heap.size 50 2 (.slice a5 ((s.take k).filter p).length c5) ((s.take k).filter p).length (hv ((s.take k).filter p)) ∧
    Below w.heap.size w wr) (fun _ v _ => n - (intOf v).toNat)
  case atStart => exact ⟨0, none, 0, by simp, rfl, by omega, by simpa [hv] using World.ownsRow_nil _ _ _ _, Below.refl _ _⟩
  case round =>
    obtain ⟨k, a5, c5, rfl, rfl, hk, ho, hB⟩ := hrel
    have HO := Lib.hid ho
    have HB := Lib.hid hB
    have hol : ((s.take k).filter p).length ≤ 100000 := Nat.le_trans (filt_len s p k) (by rw [HX.out]; exact hn)
    clear ho hB
    by_cases hlt : k < n
    · obtain ⟨b, off, rfl, hc⟩ := HH.out.at (k := k) (by rw [HX.out]; exact hlt)
      obtain ⟨⟨x1, x2⟩, hfk⟩ : ∃ x, s[k]? = some x := ⟨_, List.getElem?_eq_getElem (by rw [HX.out]; exact hlt)⟩
      obtain ⟨d0, d1⟩ := (hc k _ hfk).below HB.out
      simp only at d0 d1
      have HFK := Lib.hid hfk
      have hkz : (k : Int) < (n : Int) := by omega
      clear hc hfk
      go_wp2_with fail
      have hb1 := bel1 wr (.cells #[.int .u32 x1, .int .i64 x2] 50)
      have HO1 := Lib.hid (HO.out.alloc (.cells #[.int .u32 x1, .int .i64 x2] 50))
      obtain ⟨e0, e1⟩ := held_new wr (.int .u32 x1) (.int .i64 x2)
      have HB1 := Lib.hid (HB.out.trans (hb1.mono HB.out.size))
      clear hb1 HB HO d0 d1
      generalize wr.alloc (.cells #[.int .u32 x1, .int .i64 x2] 50) = w3 at *
      refine (HC.out w3 (x1, x2) HB1.out (List.mem_of_getElem? HFK.out)).mono ?_
      rintro e w4 ⟨rfl, hb4⟩
      replace e0 := (hb4.cell (cell_lt e0)).trans e0
      replace e1 := (hb4.cell (cell_lt e1)).trans e1
      have HO4 := Lib.hid (own_grown HO1.out hb4 (Nat.le_refl _))
      have HB4 := Lib.hid (HB1.out.trans (hb4.mono HB1.out.size))
      clear hb4 HO1 HB1
      obtain ⟨bs, hbs⟩ : ∃ bs, p (x1, x2) = bs := ⟨_, rfl⟩
      rw [hbs]
      have HBS := Lib.hid hbs
      clear hbs
      cases bs
      · go_wp2_with fail
        go_roundw
        case rel =>
          have e := filt_no HFK.out HBS.out
          exact ⟨k + 1, a5, c5, by rw [e], by go_num, by omega, by rw [e]; exact HO4.out, HB4.out⟩
        case measure => simp [intOf]; omega
      · have hn1 := news_new w4 [.int .u32 x1, .int .i64 x2] 50
        have HN1 := Lib.hid hn1
        clear hn1
        go_wp2_with ((refine wpList_app_cell rfl 26 50 i0 _ 2 16 Tryz.underlying26 hi hz0 hz1 hz2 rfl (by decide) (by omega) (.tmp 17) (.tmp 19) rfl w.heap.size _ ((s.take k).filter p).length (hv ((s.take k).filter p)) rfl (HO4.out.alloc _) ⟨w4.heap.size, 0, none⟩ 1 [.int .u32 x1, .int .i64 x2] rfl rfl HN1.out (by simp [Value.oneCell']) (by omega) (by have := HB4.out.size; simp; omega) ?_; intro a' cap' w' hown hg))
        go_roundw
        case rel =>
          have e := filt_yes HFK.out HBS.out
          refine ⟨k + 1, a', cap', by rw [e, List.length_append]; rfl, by go_num, by omega, ?_, HB4.out.trans (((Below.refl _ w4).alloc HB4.out.size _).trans (grown_below (HO4.out.alloc _) hg.out (by have := HB4.out.size; simp; omega)))⟩
          rw [e, List.length_append, hv_append, hv_one']; exact hown.out
        case measure => simp [intOf]; omega
    · obtain rfl : k = n := by omega
      have htk : s.take k = s := List.take_of_length_le (by rw [HX.out]; exact Nat.le_refl _)
      have HO' := HO.out
      rw [htk] at HO' ⊢
      have HO2 := Lib.hid HO'
      clear HO HO' htk
      go_wp2_with fail
      go_ret
      exact ⟨⟨a5, c5, rfl, HO2.out⟩, HB.out⟩
set_option maxRecDepth 100000 in
set_option maxHeartbeats 4000000 in
/-- Which sources stay, as (stolon/memb.hearing).wanted$1 tells. -/
theorem mThoseW (p : Hd → Bool) (a : Option Addr) (n c : Nat) (s : List Hd) (w : World) (hx : s.length = n) (hn : n ≤ 100000) (hH : Hs w a s)
    (hcall : ∀ (w1 : World) (x : Hd), Below w.heap.size w w1 → x ∈ s → Calls Tryz.prog 77 #[.agg #[.int .u32 x.1, .int .i64 x.2]] w1 fun e w' => e = .returned (.bool (p x)) ∧ Below w1.heap.size w1 w') :
    Calls Tryz.prog 40 #[.slice a n c, .func (.func 77) #[] #[]] w fun e w' => OutK w e w' (s.filter p) := by
  obtain ⟨i0, hi, hz0, hz1, hz2⟩ := info_parts infoHd
  have HX := Lib.hid hx
  have HH := Lib.hid hH
  have HC := Lib.hid hcall
  clear hx hH hcall
  go_enter Tryz.func40, Tryz.ntmps40
  go_wp2
  go_loopw [5, 10] (fun v5 v10 wr => ∃ (k : Nat) (a5 : Option Addr) (c5 : Nat), v5 = .slice a5 ((s.take k).filter p).length c5 ∧ v10 = .int .i64 (k : Int) ∧ k ≤ n ∧ wr.ownsRow w.heap.size 50 2 (.slice a5 ((s.take k).filter p).length c5) ((s.take k).filter p).length (hv ((s.take k).filter p)) ∧
    Below w.heap.size w wr) (fun _ v _ => n - (intOf v).toNat)
  case atStart => exact ⟨0, none, 0, by simp, rfl, by omega, by simpa [hv] using World.ownsRow_nil _ _ _ _, Below.refl _ _⟩
  case round =>
    obtain ⟨k, a5, c5, rfl, rfl, hk, ho, hB⟩ := hrel
    have HO := Lib.hid ho
    have HB := Lib.hid hB
    have hol : ((s.take k).filter p).length ≤ 100000 := Nat.le_trans (filt_len s p k) (by rw [HX.out]; exact hn)
    clear ho hB
    by_cases hlt : k < n
    · obtain ⟨b, off, rfl, hc⟩ := HH.out.at (k := k) (by rw [HX.out]; exact hlt)
      obtain ⟨⟨x1, x2⟩, hfk⟩ : ∃ x, s[k]? = some x := ⟨_, List.getElem?_eq_getElem (by rw [HX.out]; exact hlt)⟩
      obtain ⟨d0, d1⟩ := (hc k _ hfk).below HB.out
      simp only at d0 d1
      have HFK := Lib.hid hfk
      have hkz : (k : Int) < (n : Int) := by omega
      clear hc hfk
      go_wp2_with fail
      have hb1 := bel1 wr (.cells #[.int .u32 x1, .int .i64 x2] 50)
      have HO1 := Lib.hid (HO.out.alloc (.cells #[.int .u32 x1, .int .i64 x2] 50))
      obtain ⟨e0, e1⟩ := held_new wr (.int .u32 x1) (.int .i64 x2)
      have HB1 := Lib.hid (HB.out.trans (hb1.mono HB.out.size))
      clear hb1 HB HO d0 d1
      generalize wr.alloc (.cells #[.int .u32 x1, .int .i64 x2] 50) = w3 at *
      refine (HC.out w3 (x1, x2) HB1.out (List.mem_of_getElem? HFK.out)).mono ?_
      rintro e w4 ⟨rfl, hb4⟩
      replace e0 := (hb4.cell (cell_lt e0)).trans e0
      replace e1 := (hb4.cell (cell_lt e1)).trans e1
      have HO4 := Lib.hid (own_grown HO1.out hb4 (Nat.le_refl _))
      have HB4 := Lib.hid (HB1.out.trans (hb4.mono HB1.out.size))
      clear hb4 HO1 HB1
      obtain ⟨bs, hbs⟩ : ∃ bs, p (x1, x2) = bs := ⟨_, rfl⟩
      rw [hbs]
      have HBS := Lib.hid hbs
      clear hbs
      cases bs
      · go_wp2_with fail
        go_roundw
        case rel =>
          have e := filt_no HFK.out HBS.out
          exact ⟨k + 1, a5, c5, by rw [e], by go_num, by omega, by rw [e]; exact HO4.out, HB4.out⟩
        case measure => simp [intOf]; omega
      · have hn1 := news_new w4 [.int .u32 x1, .int .i64 x2] 50
        have HN1 := Lib.hid hn1
        clear hn1
        go_wp2_with ((refine wpList_app_cell rfl 26 50 i0 _ 2 16 Tryz.underlying26 hi hz0 hz1 hz2 rfl (by decide) (by omega) (.tmp 17) (.tmp 19) rfl w.heap.size _ ((s.take k).filter p).length (hv ((s.take k).filter p)) rfl (HO4.out.alloc _) ⟨w4.heap.size, 0, none⟩ 1 [.int .u32 x1, .int .i64 x2] rfl rfl HN1.out (by simp [Value.oneCell']) (by omega) (by have := HB4.out.size; simp; omega) ?_; intro a' cap' w' hown hg))
        go_roundw
        case rel =>
          have e := filt_yes HFK.out HBS.out
          refine ⟨k + 1, a', cap', by rw [e, List.length_append]; rfl, by go_num, by omega, ?_, HB4.out.trans (((Below.refl _ w4).alloc HB4.out.size _).trans (grown_below (HO4.out.alloc _) hg.out (by have := HB4.out.size; simp; omega)))⟩
          rw [e, List.length_append, hv_append, hv_one']; exact hown.out
        case measure => simp [intOf]; omega
    · obtain rfl : k = n := by omega
      have htk : s.take k = s := List.take_of_length_le (by rw [HX.out]; exact Nat.le_refl _)
      have HO' := HO.out
      rw [htk] at HO' ⊢
      have HO2 := Lib.hid HO'
      clear HO HO' htk
      go_wp2_with fail
      go_ret
      exact ⟨⟨a5, c5, rfl, HO2.out⟩, HB.out⟩
set_option maxRecDepth 100000 in
set_option maxHeartbeats 4000000 in
/-- Which sources stay, as stolon/memb.Tick$1 tells. -/
theorem mThoseT (v1 : Value) (v2 : Value) (p : Hd → Bool) (a : Option Addr) (n c : Nat) (s : List Hd) (w : World) (hx : s.length = n) (hn : n ≤ 100000) (hH : Hs w a s)
    (hcall : ∀ (w1 : World) (x : Hd), Below w.heap.size w w1 → x ∈ s → Calls Tryz.prog 41 #[.agg #[.int .u32 x.1, .int .i64 x.2], v1, v2] w1 fun e w' => e = .returned (.bool (p x)) ∧ Below w1.heap.size w1 w') :
    Calls Tryz.prog 40 #[.slice a n c, .func (.func 41) #[] #[v1, v2]] w fun e w' => OutK w e w' (s.filter p) := by
  obtain ⟨i0, hi, hz0, hz1, hz2⟩ := info_parts infoHd
  have HX := Lib.hid hx
  have HH := Lib.hid hH
  have HC := Lib.hid hcall
  clear hx hH hcall
  go_enter Tryz.func40, Tryz.ntmps40
  go_wp2
  go_loopw [5, 10] (fun v5 v10 wr => ∃ (k : Nat) (a5 : Option Addr) (c5 : Nat), v5 = .slice a5 ((s.take k).filter p).length c5 ∧ v10 = .int .i64 (k : Int) ∧ k ≤ n ∧ wr.ownsRow w.heap.size 50 2 (.slice a5 ((s.take k).filter p).length c5) ((s.take k).filter p).length (hv ((s.take k).filter p)) ∧
    Below w.heap.size w wr) (fun _ v _ => n - (intOf v).toNat)
  case atStart => exact ⟨0, none, 0, by simp, rfl, by omega, by simpa [hv] using World.ownsRow_nil _ _ _ _, Below.refl _ _⟩
  case round =>
    obtain ⟨k, a5, c5, rfl, rfl, hk, ho, hB⟩ := hrel
    have HO := Lib.hid ho
    have HB := Lib.hid hB
    have hol : ((s.take k).filter p).length ≤ 100000 := Nat.le_trans (filt_len s p k) (by rw [HX.out]; exact hn)
    clear ho hB
    by_cases hlt : k < n
    · obtain ⟨b, off, rfl, hc⟩ := HH.out.at (k := k) (by rw [HX.out]; exact hlt)
      obtain ⟨⟨x1, x2⟩, hfk⟩ : ∃ x, s[k]? = some x := ⟨_, List.getElem?_eq_getElem (by rw [HX.out]; exact hlt)⟩
      obtain ⟨d0, d1⟩ := (hc k _ hfk).below HB.out
      simp only at d0 d1
      have HFK := Lib.hid hfk
      have hkz : (k : Int) < (n : Int) := by omega
      clear hc hfk
      go_wp2_with fail
      have hb1 := bel1 wr (.cells #[.int .u32 x1, .int .i64 x2] 50)
      have HO1 := Lib.hid (HO.out.alloc (.cells #[.int .u32 x1, .int .i64 x2] 50))
      obtain ⟨e0, e1⟩ := held_new wr (.int .u32 x1) (.int .i64 x2)
      have HB1 := Lib.hid (HB.out.trans (hb1.mono HB.out.size))
      clear hb1 HB HO d0 d1
      generalize wr.alloc (.cells #[.int .u32 x1, .int .i64 x2] 50) = w3 at *
      refine (HC.out w3 (x1, x2) HB1.out (List.mem_of_getElem? HFK.out)).mono ?_
      rintro e w4 ⟨rfl, hb4⟩
      replace e0 := (hb4.cell (cell_lt e0)).trans e0
      replace e1 := (hb4.cell (cell_lt e1)).trans e1
      have HO4 := Lib.hid (own_grown HO1.out hb4 (Nat.le_refl _))
      have HB4 := Lib.hid (HB1.out.trans (hb4.mono HB1.out.size))
      clear hb4 HO1 HB1
      obtain ⟨bs, hbs⟩ : ∃ bs, p (x1, x2) = bs := ⟨_, rfl⟩
      rw [hbs]
      have HBS := Lib.hid hbs
      clear hbs
      cases bs
      · go_wp2_with fail
        go_roundw
        case rel =>
          have e := filt_no HFK.out HBS.out
          exact ⟨k + 1, a5, c5, by rw [e], by go_num, by omega, by rw [e]; exact HO4.out, HB4.out⟩
        case measure => simp [intOf]; omega
      · have hn1 := news_new w4 [.int .u32 x1, .int .i64 x2] 50
        have HN1 := Lib.hid hn1
        clear hn1
        go_wp2_with ((refine wpList_app_cell rfl 26 50 i0 _ 2 16 Tryz.underlying26 hi hz0 hz1 hz2 rfl (by decide) (by omega) (.tmp 17) (.tmp 19) rfl w.heap.size _ ((s.take k).filter p).length (hv ((s.take k).filter p)) rfl (HO4.out.alloc _) ⟨w4.heap.size, 0, none⟩ 1 [.int .u32 x1, .int .i64 x2] rfl rfl HN1.out (by simp [Value.oneCell']) (by omega) (by have := HB4.out.size; simp; omega) ?_; intro a' cap' w' hown hg))
        go_roundw
        case rel =>
          have e := filt_yes HFK.out HBS.out
          refine ⟨k + 1, a', cap', by rw [e, List.length_append]; rfl, by go_num, by omega, ?_, HB4.out.trans (((Below.refl _ w4).alloc HB4.out.size _).trans (grown_below (HO4.out.alloc _) hg.out (by have := HB4.out.size; simp; omega)))⟩
          rw [e, List.length_append, hv_append, hv_one']; exact hown.out
        case measure => simp [intOf]; omega
    · obtain rfl : k = n := by omega
      have htk : s.take k = s := List.take_of_length_le (by rw [HX.out]; exact Nat.le_refl _)
      have HO' := HO.out
      rw [htk] at HO' ⊢
      have HO2 := Lib.hid HO'
      clear HO HO' htk
      go_wp2_with fail
      go_ret
      exact ⟨⟨a5, c5, rfl, HO2.out⟩, HB.out⟩
/-- Addresses in a row of the call's own. -/
def OutV (w : World) (e : Ending) (w' : World) (zs : List Int) : Prop := (∃ a c, e = .returned (.slice a zs.length c) ∧ As w' a zs ∧ Flat a zs.length c ∧ w'.ownsRow w.heap.size 25 1 (.slice a zs.length c) zs.length (va zs)) ∧ Below w.heap.size w w'
theorem vown_le {w : World} {B B' n size : Nat} {e : TypeId} {v : Value} {xs : List Value} (h : w.ownsRow B e size v n xs) (hB : B' ≤ B) : w.ownsRow B' e size v n xs := by
  refine ⟨h.1, ?_⟩
  rcases h.2 with h1 | ⟨g, cap, cur, e1, hg, h3⟩
  · exact .inl h1
  · exact .inr ⟨g, cap, cur, e1, by omega, h3⟩
theorem outv_of {w w' : World} {v : Value} {zs : List Int} (h : w'.ownsRow w.heap.size 25 1 v zs.length (va zs)) (hA : IsA zs) (hb : Below w.heap.size w w') : OutV w (.returned v) w' zs := by
  obtain ⟨⟨a, c, e, h1, h2⟩, h3⟩ := out_of h hA hb
  cases e
  exact ⟨⟨a, c, rfl, h1, h2, h⟩, h3⟩
set_option maxRecDepth 100000 in
set_option maxHeartbeats 4000000 in
/-- The addresses of sources. -/
theorem mAddrs (a : Option Addr) (n c : Nat) (s : List Hd) (w : World) (hx : s.length = n) (hn : n ≤ 100000) (hH : Hs w a s) :
    Calls Tryz.prog 33 #[.slice a n c] w fun e w' => OutV w e w' (ad s) := by
  have HX := Lib.hid hx
  have HH := Lib.hid hH
  clear hx hH
  go_enter Tryz.func33, Tryz.ntmps33
  go_wp2
  go_loopw [3, 8] (fun v3 v8 wr => ∃ (k : Nat) (a3 : Option Addr) (c3 : Nat), v3 = .slice a3 (ad (s.take k)).length c3 ∧ v8 = .int .i64 (k : Int) ∧ k ≤ n ∧ wr.ownsRow w.heap.size 25 1 (.slice a3 (ad (s.take k)).length c3) (ad (s.take k)).length (va (ad (s.take k))) ∧
    Below w.heap.size w wr) (fun _ v _ => n - (intOf v).toNat)
  case atStart => exact ⟨0, none, 0, by simp [ad], rfl, by omega, by simpa [ad, va] using World.ownsRow_nil _ _ _ _, Below.refl _ _⟩
  case round =>
    obtain ⟨k, a3, c3, rfl, rfl, hk, ho, hB⟩ := hrel
    have HO := Lib.hid ho
    have HB := Lib.hid hB
    have hol : (ad (s.take k)).length ≤ 100000 := by rw [ad_len]; exact Nat.le_trans (List.length_take_le' _ _) (by rw [HX.out]; exact hn)
    clear ho hB
    by_cases hlt : k < n
    · obtain ⟨b, off, rfl, hc⟩ := HH.out.at (k := k) (by rw [HX.out]; exact hlt)
      obtain ⟨⟨x1, x2⟩, hfk⟩ : ∃ x, s[k]? = some x := ⟨_, List.getElem?_eq_getElem (by rw [HX.out]; exact hlt)⟩
      obtain ⟨d0, d1⟩ := (hc k _ hfk).below HB.out
      simp only at d0 d1
      have HFK := Lib.hid hfk
      have HR1 := Lib.hid (HH.out.2 _ (List.mem_of_getElem? hfk)).1
      have hkz : (k : Int) < (n : Int) := by omega
      clear hc hfk
      have hN := as_new' (wr.alloc (.cells #[.int .u32 x1, .int .i64 x2] 50)) [x1] (isA_iff.2 (by simpa using HR1.out))
      rw [World.size_alloc] at hN
      have HN := Lib.hid hN
      clear hN
      go_wp2_with ((refine wpList_app_as rfl (.tmp 12) (.tmp 15) rfl w.heap.size _ (ad (s.take k)).length (ad (s.take k)) rfl ((HO.out.alloc _).alloc _) rfl (some ⟨wr.heap.size + 1, 0, none⟩) 1 1 [x1] rfl rfl HN.out (by intro e; cases e) (by omega) (by have := HB.out.size; simp; omega) ?_; intro a' cap' w' hown hg))
      go_roundw
      case rel =>
        have e : ad (s.take (k + 1)) = ad (s.take k) ++ [x1] := by rw [takeH HFK.out]; simp [ad]
        refine ⟨k + 1, a', cap', by rw [e, List.length_append]; rfl, by go_num, by omega, by rw [e, List.length_append]; exact hown.out, HB.out.trans ((((Below.refl _ wr).alloc HB.out.size _).alloc (by have := HB.out.size; simp; omega) _).trans (grown_below ((HO.out.alloc _).alloc _) hg.out (by have := HB.out.size; simp; omega)))⟩
      case measure => simp [intOf]; omega
    · obtain rfl : k = n := by omega
      have htk : s.take k = s := List.take_of_length_le (by rw [HX.out]; exact Nat.le_refl _)
      have HO' := HO.out
      rw [htk] at HO' ⊢
      have HO2 := Lib.hid HO'
      clear HO HO' htk
      go_wp2_with fail
      go_ret
      exact outv_of HO2.out (isA_iff.2 (ins_ad HH.out.2)) HB.out
end Go.Proofs.YtllpmepmgnnoaaaGreat
