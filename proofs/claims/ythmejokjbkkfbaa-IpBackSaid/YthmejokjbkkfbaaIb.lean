/- Contracts of package ip: a header's bytes. -/
import Derived.Test.YthmejokjbkkfbaaIa
import Derived.Test.YthmejokjbkkfbaaRg
namespace Go.Proofs.Ythmejokjbkkfbaa
set_option linter.unusedVariables false
open Go.RowKit

/-- What each slot holds, once it is written. -/
def hV (h : Hdr) (all : Nat) (b : Nat) : Nat → Value → World → Prop
  | 6, v, _ => v = hv h
  | 7, v, _ => v = .int .u8 (fbt h.alert)
  | 8, v, w => Sl w v [fbt h.alert, 0]
  | 9, v, _ => v = .int .i64 all
  | 10, v, _ => v = .int .u16 all
  | 11, v, w => Sl w v [(all : Int) / 256, (all : Int) % 256]
  | 12, v, _ => v = .pointer (some ⟨b, 4, none⟩)
  | 13, v, _ => v = .int .u16 h.id
  | 14, v, w => Sl w v [h.id / 256, h.id % 256]
  | 15, v, _ => v = .pointer (some ⟨b, 3, none⟩)
  | 16, v, _ => v = .int .u8 h.ttl
  | 17, v, _ => v = .pointer (some ⟨b, 2, none⟩)
  | 18, v, _ => v = .int .u8 h.proto
  | 19, v, w => Sl w v [0, 0, h.ttl, h.proto, 0, 0]
  | 20, v, _ => v = .pointer (some ⟨b, 0, none⟩)
  | 21, v, _ => v = .int .u32 h.src
  | 22, v, w => Sl w v (l4 h.src)
  | 23, v, _ => v = .pointer (some ⟨b, 1, none⟩)
  | 24, v, _ => v = .int .u32 h.dst
  | 25, v, w => Sl w v (l4 h.dst)
  | 26, v, w => ∃ g vs, v = .slice (some ⟨g, 0, none⟩) 6 6 ∧ Parts w g vs [[fbt h.alert, 0], [(all : Int) / 256, (all : Int) % 256], [h.id / 256, h.id % 256], [0, 0, h.ttl, h.proto, 0, 0], l4 h.src, l4 h.dst]
  | 27, v, w => Sl w v (base h all)
  | 5, v, w => Sl w v (base h all)
  | _, _, _ => True
theorem hV_stable (h : Hdr) (all b : Nat) : ∀ t v w w', True → Below w.heap.size w w' → hV h all b t v w → hV h all b t v w' := by
  intro t v w w' _ hb hv
  unfold hV at hv ⊢
  split at hv
  all_goals first
    | exact hv
    | exact hv.below hb
    | (obtain ⟨g, vs, e, hp⟩ := hv; exact ⟨g, vs, e, hp.below hb⟩)
def hD : Nat → List Nat
  | 1 => [6] | 2 => [7] | 4 => [9] | 5 => [10] | 7 => [12] | 8 => [13] | 10 => [15] | 12 => [17] | 13 => [16, 18] | 15 => [20] | 16 => [21] | 18 => [23] | 19 => [24]
  | 20 => [8, 11, 14, 19, 22, 25] | 21 => [26] | 22 => [27] | _ => []
theorem box_cells {h : Hdr} {w w1 w2 : World} (hw1 : w1 = w.alloc (.cells #[.int .u32 h.src, .int .u32 h.dst, .int .u8 h.proto, .int .u8 h.ttl, .int .u16 h.id, .bool h.alert] 26)) (hb : Below w1.heap.size w1 w2) :
    w2.cell? ⟨w.heap.size, 0, none⟩ = some (.int .u32 h.src) ∧ w2.cell? ⟨w.heap.size, 1, none⟩ = some (.int .u32 h.dst) ∧ w2.cell? ⟨w.heap.size, 2, none⟩ = some (.int .u8 h.proto) ∧ w2.cell? ⟨w.heap.size, 3, none⟩ = some (.int .u8 h.ttl) ∧
    w2.cell? ⟨w.heap.size, 4, none⟩ = some (.int .u16 h.id) ∧ w2.cell? ⟨w.heap.size, 5, none⟩ = some (.bool h.alert) := by
  have hlt : w.heap.size < w1.heap.size := by rw [hw1]; simp
  have hc : ∀ k, w2.cell? ⟨w.heap.size, k, none⟩ = w1.cell? ⟨w.heap.size, k, none⟩ := fun k => hb.cell (p := ⟨w.heap.size, k, none⟩) hlt
  rw [hc, hc, hc, hc, hc, hc, hw1]
  simp only [World.cell?_alloc_new]
  exact ⟨rfl, rfl, rfl, rfl, rfl, rfl⟩
theorem ev {a : Act} {t : Nat} {v : Value} (h : a.eval (.tmp t) = v) : a.tmps[t]?.getD undef = v := by simpa [Act.eval] using h
theorem new_sl (w : World) (xs : List Int) (hb : IsB xs) (n : Nat) (hn : xs.length = n) : Sl (w.alloc (.cells (vb xs).toArray 5)) (.slice (some ⟨w.heap.size, 0, none⟩) n n) xs :=
  ⟨_, n, by rw [hn], (Ob.of_heap (World.alloc_heap_new _ _)).bs hb, fun e => by cases e⟩
theorem isB2 {x y : Int} (h : 0 ≤ x ∧ x ≤ 255) (h' : 0 ≤ y ∧ y ≤ 255) : IsB [x, y] := isB_cons.2 ⟨h, isB_cons.2 ⟨h', isB_nil⟩⟩
theorem fbt_bd (al : Bool) : 0 ≤ fbt al ∧ fbt al ≤ 255 := by cases al <;> decide
theorem new_parts (w : World) (v0 v1 v2 v3 v4 v5 : Value) (x0 x1 x2 x3 x4 x5 : List Int) (h0 : Sl w v0 x0) (h1 : Sl w v1 x1) (h2 : Sl w v2 x2) (h3 : Sl w v3 x3) (h4 : Sl w v4 x4) (h5 : Sl w v5 x5) :
    Parts (w.alloc (.cells #[v0, v1, v2, v3, v4, v5] 27)) w.heap.size [v0, v1, v2, v3, v4, v5] [x0, x1, x2, x3, x4, x5] := by
  have hb : Below w.heap.size w (w.alloc (.cells #[v0, v1, v2, v3, v4, v5] 27)) := (Below.refl _ w).alloc (Nat.le_refl _) _
  refine ⟨rfl, fun i v hv => ?_, fun i v xs hv hx => ?_⟩
  · have hi : i < 6 := (List.getElem?_eq_some_iff.1 hv).1
    have hc : i = 0 ∨ i = 1 ∨ i = 2 ∨ i = 3 ∨ i = 4 ∨ i = 5 := by omega
    rcases hc with rfl | rfl | rfl | rfl | rfl | rfl <;> (cases hv; rw [World.cell?_alloc_new]; rfl)
  · have hi : i < 6 := (List.getElem?_eq_some_iff.1 hv).1
    have hc : i = 0 ∨ i = 1 ∨ i = 2 ∨ i = 3 ∨ i = 4 ∨ i = 5 := by omega
    rcases hc with rfl | rfl | rfl | rfl | rfl | rfl
    · cases hv; cases hx; exact h0.below hb
    · cases hv; cases hx; exact h1.below hb
    · cases hv; cases hx; exact h2.below hb
    · cases hv; cases hx; exact h3.below hb
    · cases hv; cases hx; exact h4.below hb
    · cases hv; cases hx; exact h5.below hb
theorem new_parts2 (w : World) (v0 v1 : Value) (x0 x1 : List Int) (h0 : Sl w v0 x0) (h1 : Sl w v1 x1) :
    Parts (w.alloc (.cells #[v0, v1] 27)) w.heap.size [v0, v1] [x0, x1] := by
  have hb : Below w.heap.size w (w.alloc (.cells #[v0, v1] 27)) := (Below.refl _ w).alloc (Nat.le_refl _) _
  refine ⟨rfl, fun i v hv => ?_, fun i v xs hv hx => ?_⟩
  · have hi : i < 2 := (List.getElem?_eq_some_iff.1 hv).1
    have hc : i = 0 ∨ i = 1 := by omega
    rcases hc with rfl | rfl <;> (cases hv; rw [World.cell?_alloc_new]; rfl)
  · have hi : i < 2 := (List.getElem?_eq_some_iff.1 hv).1
    have hc : i = 0 ∨ i = 1 := by omega
    rcases hc with rfl | rfl
    · cases hv; cases hx; exact h0.below hb
    · cases hv; cases hx; exact h1.below hb

set_option maxHeartbeats 1000000 in
theorem iHeader (h : Hdr) (all : Nat) (w : World) (hk : h.ok) (ha : all ≤ 1500) :
    Calls Try.prog 20 #[.agg #[.int .u32 h.src, .int .u32 h.dst, .int .u8 h.proto, .int .u8 h.ttl, .int .u16 h.id, .bool h.alert], .int .i64 all] w fun e w' => ∃ v, e = .returned v ∧ Fs w' w.heap.size v (hbytes h all) ∧ Below w.heap.size w w' := by
  have HK := Lib.hid hk
  clear hk
  go_enter Try.func20, Try.ntmps20
  go_wp2_with fail
  obtain ⟨w1, hw1⟩ : ∃ w1, w1 = w.alloc (.cells #[.int .u32 h.src, .int .u32 h.dst, .int .u8 h.proto, .int .u8 h.ttl, .int .u16 h.id, .bool h.alert] 26) := ⟨_, rfl⟩
  rw [← hw1]
  have HW := Lib.hid hw1
  clear hw1
  refine wp_region_each (hV h all w.heap.size) (fun w' => Below w1.heap.size w1 w') (fun a b => Below a.heap.size a b) hD [6, 7, 8, 9, 10, 11, 12, 13, 14, 15, 16, 17, 18, 19, 20, 21, 22, 23, 24, 25, 26, 27, 5] (by kernel_rfl) (by kernel_rfl) (by kernel_rfl) (Below.refl _ w1).drew (fun t v a b _ hr hv => hV_stable h all _ t v a b trivial hr hv)
    ⟨?_, ?_, ?_, ?_, ?_, ?_, ?_, ?_, ?_, ?_, ?_, ?_, ?_, ?_, ?_, ?_, ?_, ?_, ?_, ?_, ?_, ?_, ?_, trivial⟩ ?_
  case refine_1 =>
    intro a w2 hS h0 hd
    have e2 := ev (h0 2 (by kernel_rfl))
    have e2 : a.tmps[2]?.getD undef = .pointer (some ⟨w.heap.size, 0, none⟩) := e2
    obtain ⟨c0, c1, c2, c3, c4, c5⟩ := box_cells HW.out hS
    refine Does.value (hv h) ?_ ⟨fun t ht => by cases ht; rfl, hS, Below.refl _ _⟩
    clear hS h0 hd
    unfold hv
    go_simp
  case refine_2 =>
    intro a w2 hS h0 hd
    have e6 : a.tmps[6]?.getD undef = hv h := ev (hd 6 List.mem_cons_self)
    unfold hv at e6
    refine Does.call 18 #[hv h] (w' := w2) ?_ ((iFirst h w2).mono ?_)
    · clear hS h0 hd
      unfold hv
      go_simp
    · rintro e w3 ⟨rfl, hb⟩
      exact ⟨_, rfl, fun t ht => by cases ht; rfl, hS.trans (hb.mono hS.size), hb⟩
  case refine_3 =>
    intro a w2 hS h0 hd
    have e7 : a.tmps[7]?.getD undef = .int .u8 (fbt h.alert) := ev (hd 7 List.mem_cons_self)
    have hn := new_sl w2 [fbt h.alert, 0] (isB2 (fbt_bd _) (by omega)) 2 rfl
    refine Does.value _ (w' := w2.alloc (.cells #[.int .u8 (fbt h.alert), .int .u8 0] 5)) ?_ ⟨fun t ht => by cases ht; exact hn, hS.alloc hS.size _, (Below.refl _ w2).alloc (Nat.le_refl _) _⟩
    clear hS h0 hd hn
    go_simp
  case refine_4 =>
    intro a w2 hS h0 hd
    have e1 : a.tmps[1]?.getD undef = .int .i64 all := ev (h0 1 (by kernel_rfl))
    refine Does.value (.int .i64 all) ?_ ⟨fun t ht => by cases ht; exact rfl, hS, Below.refl _ _⟩
    clear hS h0 hd
    go_simp
  case refine_5 =>
    intro a w2 hS h0 hd
    have e9 : a.tmps[9]?.getD undef = .int .i64 all := ev (hd 9 List.mem_cons_self)
    have hw : IntKind.u16.wrap (all : Int) = all := wraps_u16 _ (by omega) (by omega)
    refine Does.value (.int .u16 all) ?_ ⟨fun t ht => by cases ht; exact rfl, hS, Below.refl _ _⟩
    clear hS h0 hd
    go_simp
  case refine_6 =>
    intro a w2 hS h0 hd
    have e10 : a.tmps[10]?.getD undef = .int .u16 all := ev (hd 10 List.mem_cons_self)
    refine Does.call 29 #[.int .u16 all] (w' := w2) ?_ ((iTwo all w2 (by omega) (by omega)).mono ?_)
    · clear hS h0 hd
      go_simp
    · rintro e w3 ⟨rfl, rfl⟩
      exact ⟨_, rfl, fun t ht => by cases ht; exact new_sl w2 ([(all : Int) / 256, (all : Int) % 256]) (isB2 (by omega) (by omega)) 2 rfl, hS.alloc hS.size _, (Below.refl _ w2).alloc (Nat.le_refl _) _⟩
  case refine_7 =>
    intro a w2 hS h0 hd
    have e2 : a.tmps[2]?.getD undef = .pointer (some ⟨w.heap.size, 0, none⟩) := ev (h0 2 (by kernel_rfl))
    refine Does.value (.pointer (some ⟨w.heap.size, 4, none⟩)) ?_ ⟨fun t ht => by cases ht; exact rfl, hS, Below.refl _ _⟩
    clear hS h0 hd
    go_simp
  case refine_8 =>
    intro a w2 hS h0 hd
    have e12 : a.tmps[12]?.getD undef = .pointer (some ⟨w.heap.size, 4, none⟩) := ev (hd 12 List.mem_cons_self)
    obtain ⟨c0, c1, c2, c3, c4, c5⟩ := box_cells HW.out hS
    refine Does.value (.int .u16 h.id) ?_ ⟨fun t ht => by cases ht; exact rfl, hS, Below.refl _ _⟩
    clear hS h0 hd
    go_simp
  case refine_9 =>
    intro a w2 hS h0 hd
    have e13 : a.tmps[13]?.getD undef = .int .u16 h.id := ev (hd 13 List.mem_cons_self)
    have hid := HK.out.2.2.2.2
    refine Does.call 29 #[.int .u16 h.id] (w' := w2) ?_ ((iTwo h.id w2 HK.out.2.2.2.2.1 HK.out.2.2.2.2.2).mono ?_)
    · clear hS h0 hd
      go_simp
    · rintro e w3 ⟨rfl, rfl⟩
      exact ⟨_, rfl, fun t ht => by cases ht; exact new_sl w2 ([h.id / 256, h.id % 256]) (isB2 (by omega) (by omega)) 2 rfl, hS.alloc hS.size _, (Below.refl _ w2).alloc (Nat.le_refl _) _⟩
  case refine_10 =>
    intro a w2 hS h0 hd
    have e2 : a.tmps[2]?.getD undef = .pointer (some ⟨w.heap.size, 0, none⟩) := ev (h0 2 (by kernel_rfl))
    refine Does.value (.pointer (some ⟨w.heap.size, 3, none⟩)) ?_ ⟨fun t ht => by cases ht; exact rfl, hS, Below.refl _ _⟩
    clear hS h0 hd
    go_simp
  case refine_11 =>
    intro a w2 hS h0 hd
    have e15 : a.tmps[15]?.getD undef = .pointer (some ⟨w.heap.size, 3, none⟩) := ev (hd 15 List.mem_cons_self)
    obtain ⟨c0, c1, c2, c3, c4, c5⟩ := box_cells HW.out hS
    refine Does.value (.int .u8 h.ttl) ?_ ⟨fun t ht => by cases ht; exact rfl, hS, Below.refl _ _⟩
    clear hS h0 hd
    go_simp
  case refine_12 =>
    intro a w2 hS h0 hd
    have e2 : a.tmps[2]?.getD undef = .pointer (some ⟨w.heap.size, 0, none⟩) := ev (h0 2 (by kernel_rfl))
    refine Does.value (.pointer (some ⟨w.heap.size, 2, none⟩)) ?_ ⟨fun t ht => by cases ht; exact rfl, hS, Below.refl _ _⟩
    clear hS h0 hd
    go_simp
  case refine_13 =>
    intro a w2 hS h0 hd
    have e17 : a.tmps[17]?.getD undef = .pointer (some ⟨w.heap.size, 2, none⟩) := ev (hd 17 List.mem_cons_self)
    obtain ⟨c0, c1, c2, c3, c4, c5⟩ := box_cells HW.out hS
    refine Does.value (.int .u8 h.proto) ?_ ⟨fun t ht => by cases ht; exact rfl, hS, Below.refl _ _⟩
    clear hS h0 hd
    go_simp
  case refine_14 =>
    intro a w2 hS h0 hd
    have e16 : a.tmps[16]?.getD undef = .int .u8 h.ttl := ev (hd 16 List.mem_cons_self)
    have e18 : a.tmps[18]?.getD undef = .int .u8 h.proto := ev (hd 18 (List.mem_cons_of_mem _ List.mem_cons_self))
    have hn := new_sl w2 [0, 0, h.ttl, h.proto, 0, 0] (isB_cons.2 ⟨by omega, isB_cons.2 ⟨by omega, isB_cons.2 ⟨HK.out.2.2.2.1, isB_cons.2 ⟨HK.out.2.2.1, isB2 (by omega) (by omega)⟩⟩⟩⟩) 6 rfl
    refine Does.value _ (w' := w2.alloc (.cells #[.int .u8 0, .int .u8 0, .int .u8 h.ttl, .int .u8 h.proto, .int .u8 0, .int .u8 0] 5)) ?_ ⟨fun t ht => by cases ht; exact hn, hS.alloc hS.size _, (Below.refl _ w2).alloc (Nat.le_refl _) _⟩
    clear hS h0 hd hn
    go_simp
  case refine_15 =>
    intro a w2 hS h0 hd
    have e2 : a.tmps[2]?.getD undef = .pointer (some ⟨w.heap.size, 0, none⟩) := ev (h0 2 (by kernel_rfl))
    refine Does.value (.pointer (some ⟨w.heap.size, 0, none⟩)) ?_ ⟨fun t ht => by cases ht; exact rfl, hS, Below.refl _ _⟩
    clear hS h0 hd
    go_simp
  case refine_16 =>
    intro a w2 hS h0 hd
    have e20 : a.tmps[20]?.getD undef = .pointer (some ⟨w.heap.size, 0, none⟩) := ev (hd 20 List.mem_cons_self)
    obtain ⟨c0, c1, c2, c3, c4, c5⟩ := box_cells HW.out hS
    refine Does.value (.int .u32 h.src) ?_ ⟨fun t ht => by cases ht; exact rfl, hS, Below.refl _ _⟩
    clear hS h0 hd
    go_simp
  case refine_17 =>
    intro a w2 hS h0 hd
    have e21 : a.tmps[21]?.getD undef = .int .u32 h.src := ev (hd 21 List.mem_cons_self)
    refine Does.call 30 #[.int .u32 h.src] (w' := w2) ?_ ((aBytes h.src w2 HK.out.1.1 HK.out.1.2).mono ?_)
    · clear hS h0 hd
      go_simp
    · rintro e w3 ⟨rfl, rfl⟩
      exact ⟨_, rfl, fun t ht => by cases ht; exact new_sl w2 (l4 h.src) (isB_l4 HK.out.1) 4 rfl, hS.alloc hS.size _, (Below.refl _ w2).alloc (Nat.le_refl _) _⟩
  case refine_18 =>
    intro a w2 hS h0 hd
    have e2 : a.tmps[2]?.getD undef = .pointer (some ⟨w.heap.size, 0, none⟩) := ev (h0 2 (by kernel_rfl))
    refine Does.value (.pointer (some ⟨w.heap.size, 1, none⟩)) ?_ ⟨fun t ht => by cases ht; exact rfl, hS, Below.refl _ _⟩
    clear hS h0 hd
    go_simp
  case refine_19 =>
    intro a w2 hS h0 hd
    have e23 : a.tmps[23]?.getD undef = .pointer (some ⟨w.heap.size, 1, none⟩) := ev (hd 23 List.mem_cons_self)
    obtain ⟨c0, c1, c2, c3, c4, c5⟩ := box_cells HW.out hS
    refine Does.value (.int .u32 h.dst) ?_ ⟨fun t ht => by cases ht; exact rfl, hS, Below.refl _ _⟩
    clear hS h0 hd
    go_simp
  case refine_20 =>
    intro a w2 hS h0 hd
    have e24 : a.tmps[24]?.getD undef = .int .u32 h.dst := ev (hd 24 List.mem_cons_self)
    refine Does.call 30 #[.int .u32 h.dst] (w' := w2) ?_ ((aBytes h.dst w2 HK.out.2.1.1 HK.out.2.1.2).mono ?_)
    · clear hS h0 hd
      go_simp
    · rintro e w3 ⟨rfl, rfl⟩
      exact ⟨_, rfl, fun t ht => by cases ht; exact new_sl w2 (l4 h.dst) (isB_l4 HK.out.2.1) 4 rfl, hS.alloc hS.size _, (Below.refl _ w2).alloc (Nat.le_refl _) _⟩
  case refine_21 =>
    intro a w2 hS h0 hd
    have s8 := hd 8 List.mem_cons_self
    have s11 := hd 11 (List.mem_cons_of_mem _ List.mem_cons_self)
    have s14 := hd 14 (List.mem_cons_of_mem _ (List.mem_cons_of_mem _ List.mem_cons_self))
    have s19 := hd 19 (List.mem_cons_of_mem _ (List.mem_cons_of_mem _ (List.mem_cons_of_mem _ List.mem_cons_self)))
    have s22 := hd 22 (List.mem_cons_of_mem _ (List.mem_cons_of_mem _ (List.mem_cons_of_mem _ (List.mem_cons_of_mem _ List.mem_cons_self))))
    have s25 := hd 25 (List.mem_cons_of_mem _ (List.mem_cons_of_mem _ (List.mem_cons_of_mem _ (List.mem_cons_of_mem _ (List.mem_cons_of_mem _ List.mem_cons_self)))))
    have hn := new_parts w2 _ _ _ _ _ _ _ _ _ _ _ _ s8 s11 s14 s19 s22 s25
    obtain ⟨a8, k8, q8, -, -⟩ := s8
    rw [q8] at hn
    replace q8 := ev q8
    obtain ⟨a11, k11, q11, -, -⟩ := s11
    rw [q11] at hn
    replace q11 := ev q11
    obtain ⟨a14, k14, q14, -, -⟩ := s14
    rw [q14] at hn
    replace q14 := ev q14
    obtain ⟨a19, k19, q19, -, -⟩ := s19
    rw [q19] at hn
    replace q19 := ev q19
    obtain ⟨a22, k22, q22, -, -⟩ := s22
    rw [q22] at hn
    replace q22 := ev q22
    obtain ⟨a25, k25, q25, -, -⟩ := s25
    rw [q25] at hn
    replace q25 := ev q25
    simp only [List.length_cons, List.length_nil, l4_len, Nat.zero_add, Nat.reduceAdd] at hn q8 q11 q14 q19 q22 q25
    refine Does.value (.slice (some ⟨w2.heap.size, 0, none⟩) 6 6) (w' := w2.alloc (.cells #[.slice a8 2 k8, .slice a11 2 k11, .slice a14 2 k14, .slice a19 6 k19, .slice a22 4 k22, .slice a25 4 k25] 27)) ?_ ⟨fun t ht => by cases ht; exact ⟨_, _, rfl, hn⟩, hS.alloc hS.size _, (Below.refl _ w2).alloc (Nat.le_refl _) _⟩
    clear hS h0 hd hn
    go_simp
  case refine_22 =>
    intro a w2 hS h0 hd
    obtain ⟨g, vs, e26, hp⟩ := hd 26 List.mem_cons_self
    replace e26 := ev e26
    refine Does.call 19 #[.slice (some ⟨g, 0, none⟩) 6 6] (w' := w2) ?_ ((iJoin g 6 vs _ w2 rfl (by omega) hp (by simp [l4]) (by omega)).mono ?_)
    · clear hS h0 hd hp
      go_simp
    · rintro e w3 ⟨v, rfl, hf, hb⟩
      exact ⟨_, rfl, fun t ht => by cases ht; exact hf.sl, hS.trans (hb.mono hS.size), hb⟩
  case refine_23 =>
    intro a w2 hS h0 hd
    have e27 := hd 27 List.mem_cons_self
    obtain ⟨a27, k27, q27, hb27, hn27⟩ := e27
    replace q27 := ev q27
    refine Does.value _ (w' := w2) ?_ ⟨fun t ht => by cases ht; exact ⟨a27, k27, rfl, hb27, hn27⟩, hS, Below.refl _ _⟩
    clear hS h0 hd hb27 hn27
    go_simp
  case refine_24 =>
    intro f w2 hS hV
    obtain ⟨a5, k5, q5, b5, n5⟩ : Sl w2 (f 5) (base h all) := hV 5 (by simp)
    obtain ⟨-, -, -, -, -, c5⟩ := box_cells HW.out hS
    have HB2 : Hid (Below w.heap.size w w2) := Lib.hid (by
      have h1 : Below w.heap.size w w1 := by rw [HW.out]; exact (Below.refl _ w).alloc (Nat.le_refl _) _
      exact h1.trans (hS.mono h1.size))
    have B5 := Lib.hid b5
    have N5 := Lib.hid n5
    have HI := Lib.hid (isB_base HK.out (all := (all : Int)) (by omega) (by omega))
    simp only [base_len] at q5
    simp only [putAll, Act.put, List.setIfInBounds_toArray, List.set_cons_zero, List.set_cons_succ, q5]
    clear hV b5 n5 hS q5
    cases hal : h.alert with
    | false =>
      rw [hal] at c5
      have HR : Hid (hbytes h all = putS (base h all) 10) := Lib.hid (by unfold hbytes hraw; rw [hal]; simp)
      clear hal
      go_wp2_with (go_at_call 32; refine (iSummed a5 20 k5 (base h all) _ (base_len _ _) (by omega) (by omega) B5.out).mono ?_; rintro e w3 ⟨v, rfl, hf, hb⟩)
      go_ret
      rw [HR.out]
      exact ⟨_, rfl, hf.up HB2.out.size, HB2.out.trans (hb.mono HB2.out.size)⟩
    | true =>
      rw [hal] at c5
      have HR : Hid (hbytes h all = putS ([base h all, alertL].flatten) 10) := Lib.hid (by unfold hbytes hraw; rw [hal]; simp)
      have HL : Hid (([base h all, alertL].flatten).length = 24) := Lib.hid (by simp [base, l4, alertL])
      have HP : Hid (Parts ((w2.alloc (.cells #[.int .u8 148, .int .u8 4, .int .u8 0, .int .u8 0] 5)).alloc (.cells #[.slice a5 20 k5, .slice (some ⟨w2.heap.size, 0, none⟩) 4 4] 27)) (w2.heap.size + 1) [.slice a5 20 k5, .slice (some ⟨w2.heap.size, 0, none⟩) 4 4] [base h all, alertL]) := Lib.hid (by
        have := new_parts2 (w2.alloc (.cells #[.int .u8 148, .int .u8 4, .int .u8 0, .int .u8 0] 5)) _ _ _ _ (Sl.below ⟨a5, k5, rfl, B5.out, N5.out⟩ ((Below.refl _ w2).alloc (Nat.le_refl _) _)) (new_sl w2 alertL isB_alert 4 rfl)
        rwa [World.size_alloc] at this)
      clear hal
      go_wp2_with (first
        | (go_at_call 31; refine (iAlert _).mono ?_; rintro e w3 ⟨rfl, rfl⟩)
        | (go_at_call 19; refine (iJoin _ 2 _ [base h all, alertL] _ rfl (by omega) HP.out (by rw [HL.out]; omega) (by omega)).mono ?_; rintro e w3 ⟨v, rfl, ⟨g, c, rfl, hg, hgc, hbs, hfz⟩, hb⟩; rw [HL.out]; have HBS := Lib.hid hbs; have HB3 := Lib.hid hb; clear hbs hfz hb)
        | (go_at_call 32; refine (iSummed _ 24 c _ _ HL.out (by omega) (by omega) HBS.out).mono ?_; rintro e w4 ⟨v, rfl, hf, hb4⟩))
      go_ret
      rw [HR.out]
      have hb2 : Below w.heap.size w ((w2.alloc (.cells #[.int .u8 148, .int .u8 4, .int .u8 0, .int .u8 0] 5)).alloc (.cells #[.slice a5 20 k5, .slice (some ⟨w2.heap.size, 0, none⟩) 4 4] 27)) :=
        (HB2.out.alloc HB2.out.size _).alloc (by have := HB2.out.size; simp; omega) _
      have hb3 := hb2.trans (HB3.out.mono hb2.size)
      exact ⟨_, rfl, hf.up hb3.size, hb3.trans (hb4.mono hb3.size)⟩
end Go.Proofs.Ythmejokjbkkfbaa
