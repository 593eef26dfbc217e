/- sort.Slice of sources that are kept, by their addresses. -/
import Derived.Test.YtllpmepmgnnoaaaY0
import Derived.Test.YtllpmepmgnnoaaaY1
import Derived.Test.YtllpmepmgnnoaaaY2
import Derived.Test.YtllpmepmgnnoaaaY3
import Derived.Test.YtllpmepmgnnoaaaY4
import Derived.Test.YtllpmepmgnnoaaaY5
import Derived.Test.YtllpmepmgnnoaaaY6
import Derived.Test.YtllpmepmgnnoaaaY7
import Derived.Test.YtllpmepmgnnoaaaShelf
import Derived.BigQuiet
import Derived.Laws.Externs
import Derived.Shelf.GgSortFunc.Tiny
import Derived.Shelf.SlSortFuncK.WholeK
namespace Go.Proofs.Ytllpmepmgnnoaaa
set_option linter.unusedVariables false
open Go.RowKit

noncomputable def hsT : TypeInfo := (Try.prog.info? 46).get (by kernel_rfl)
noncomputable def hsE : TypeInfo := (Try.prog.info? 77).get (by kernel_rfl)
theorem hsK (n : Nat) (h2 : 2 ≤ n) : Lib.swapperK n hsE 25 = 9 := by
  have a : hsE.hasPointers = false := by kernel_rfl
  have b : hsE.bytes = 16 := by kernel_rfl
  have c : (n == 0) = false := by simp; omega
  have d : (n == 1) = false := by simp; omega
  simp [Lib.swapperK, a, b, c, d]
def hlt (x y : Hd) : Bool := decide (x.1 < y.1)
theorem swo_hlt : Go.Sort.SWO hlt where
  irrefl := fun x => by simp [hlt]
  trans := fun x y z h1 h2 => by simp [hlt] at *; omega
  ntrans := fun x y z h1 h2 => by simp [hlt] at *; omega
theorem vLess (x y : Int) (w : World) : Calls Try.prog 116 #[.int .u32 x, .int .u32 y] w fun e w' => e = .returned (.bool (decide (x < y))) ∧ w' = w := by
  go_enter Try.func116, Try.ntmps116
  go_wp2
  go_ret
  exact ⟨rfl, rfl⟩
set_option maxHeartbeats 2000000 in
/-- What the sort asks. -/
theorem mLess (B b off c size : Nat) (W : World) (G : Nat → Int) (hs : W.cell? ⟨B, 3, none⟩ = some (.slice (some ⟨b, off, none⟩) size c))
    (hc : ∀ t, t < size → W.cell? ⟨b, off + t * 2, none⟩ = some (.int .u32 (G t))) (i j : Nat) (hi : i < size) (hj : j < size) (hsz : size < 4611686018427387904) :
    Calls Try.prog 115 #[.int .i64 i, .int .i64 j, .pointer (some ⟨B, 0, none⟩)] W fun e w' => e = .returned (.bool (decide (G i < G j))) ∧ ∃ q, w' = W.drewN q := by
  have c0 : ∀ q, (W.drewN q).cell? ⟨B, 3, none⟩ = some (.slice (some ⟨b, off, none⟩) size c) := fun q => hs
  have c1 : ∀ q, (W.drewN q).cell? ⟨b, off + i * 2, none⟩ = some (.int .u32 (G i)) := fun q => hc i hi
  have c2 : ∀ q, (W.drewN q).cell? ⟨b, off + j * 2, none⟩ = some (.int .u32 (G j)) := fun q => hc j hj
  have i0 : (0 : Int) ≤ (i : Int) := by omega
  have i1 : (i : Int) < (size : Int) := by omega
  have j0 : (0 : Int) ≤ (j : Int) := by omega
  have j1 : (j : Int) < (size : Int) := by omega
  clear hs hc
  go_enter Try.func115, Try.ntmps115
  go_wp2
  go_quiet (first | (go_at_call 116; refine Calls.quiet_of_same (vLess _ _ _)))
  go_wp2
  go_ret
  exact ⟨rfl, _, rfl⟩
theorem but1_putV {α : Type} [Inhabited α] (enc : α → Value) (w : World) (q g off : Nat) (d : Array α) : But1 g w (Go.Sort.putRow enc (Go.Sort.ahead w q) g off d) :=
  ⟨rfl, rfl, rfl, by simp, fun k hk hne => by
    simp only [Go.Sort.putRow, Go.Sort.mapBlock, Array.getElem?_modify, Go.Sort.heap_ahead, if_neg (Ne.symm hne)]⟩
theorem below_grow {B : Nat} {w w' : World} (os : Array Obj) (h : Below B w w') (hB : B ≤ w.heap.size) : Below B w (Go.Sort.grow w' os) :=
  ⟨h.os, h.tape, h.output, by have := h.size; simp only [Go.Sort.grow, Array.size_append]; omega, fun k hk => by
    have h1 := h.size
    simp only [Go.Sort.grow]
    rw [Array.getElem?_append_left (by omega)]
    exact h.block k hk⟩
theorem get_list! (s : List Hd) (i : Nat) (h : i < s.length) : s.toArray[i]! = s[i] := by
  rw [getElem!_pos s.toArray i (by simpa using h)]
  simp
theorem own_holds {w : World} {B : Nat} {c : Nat} {s : List Hd} {a : Option Addr} (h : w.ownsRow B 77 2 (.slice a s.length c) s.length (hv s)) (hn : 0 < s.length) : ∃ g, a = some ⟨g, 0, none⟩ ∧ B ≤ g ∧ g < w.heap.size ∧ Go.Sort.HoldsK hcs 2 w g 0 s.toArray := by
  obtain ⟨hl, h⟩ := h
  rcases h with ⟨_, e⟩ | ⟨g, cap, cur, e, hB, hg, hnc, _, hsz, htk⟩
  · omega
  · simp at e
    obtain ⟨rfl, rfl⟩ := e
    refine ⟨g, rfl, hB, (Array.getElem?_eq_some_iff.1 hg).1, fun j hj => ?_⟩
    rw [Go.Sort.size_flatK] at hj
    have hj2 : j < s.length * 2 := by simpa using hj
    refine ⟨?_, by simp [World.frozen?, hg]⟩
    rw [Go.Sort.get_flatK _ _ _ _ hj, Nat.zero_add, get_list! s (j / 2) (by omega)]
    have h1 := hv_at s (j / 2) s[j / 2] (List.getElem?_eq_getElem (by omega)) (j % 2) (by omega)
    rw [show j / 2 * 2 + j % 2 = j by omega, ← htk, List.getElem?_take_of_lt (by omega)] at h1
    have h2 : (hcs s[j / 2])[j % 2]? = some (hcs s[j / 2])[j % 2]! := by
      rw [List.getElem?_eq_getElem (by simp [hcs]; omega), getElem!_pos (hcs s[j / 2]) (j % 2) (by simp [hcs]; omega)]
    rw [h2] at h1
    simp only [World.cell?, hg, id]
    simpa using h1
set_option maxHeartbeats 2000000 in
/-- The row of sources is sorted by addresses. -/
theorem mSort (N B c : Nat) (a : Option Addr) (s : List Hd) (w : World) (hown : w.ownsRow B 77 2 (.slice a s.length c) s.length (hv s)) (hB : B ≤ w.heap.size) (hN : w.cell? ⟨N, 3, none⟩ = some (.slice a s.length c)) (hNB : N < B)
    (hi : InS s) (hnd : (ad s).Nodup) (hsz : s.length ≤ 1000000) :
    Calls Try.prog 114 #[.iface 46 (.slice a s.length c), .func (.func 115) #[] #[.pointer (some ⟨N, 0, none⟩)]] w fun e w' =>
      e = .returned (.tuple #[]) ∧ ∃ d : List Hd, d.Perm s ∧ Inc (ad d) ∧ HT w' a d ∧ Below B w w' := by
  by_cases h2 : 2 ≤ s.length
  · have hty := (own_ht hown rfl hi).2
    obtain ⟨g, rfl, hBg, hg, hH⟩ := own_holds hown (by omega)
    have hd : s.toArray.size = s.length := by simp
    have hless : Go.Proofs.LessReadsK Try.prog 115 #[.pointer (some ⟨N, 0, none⟩)] hcs 2 hlt g 0 s.toArray.size w := by
      intro m os dk hs i j hi hj
      have e : Go.Proofs.sortWorldK hcs 2 w g 0 m dk os = Go.Sort.putRowK hcs 2 (Go.Sort.grow (Go.Sort.ahead w m) os) g 0 dk := by
        unfold Go.Proofs.sortWorldK; rw [Go.Sort.putRowK_grow _ _ (Go.Sort.ahead w m) _ g 0 _ hg]
      have hHg : Go.Sort.HoldsK hcs 2 (Go.Sort.grow (Go.Sort.ahead w m) os) g 0 s.toArray := Go.Sort.holdsK_grow _ _ _ _ g 0 s.toArray hg (Go.Sort.holdsK_ahead _ _ _ _ _ _ _ hH)
      refine mLess N g 0 c s.toArray.size _ (fun t => dk[t]!.1) ?_ (fun t ht => ?_) i j hi hj (by omega)
      · rw [e, Go.Sort.cell?_putRowK_other _ _ _ g 0 dk _ (by show N ≠ g; omega), Go.Sort.cell?_grow _ _ _ (by show N < w.heap.size; omega), hd]; exact hN
      · rw [e]; exact ((Go.Sort.holdsK_putRowK _ _ _ g 0 s.toArray dk hHg hs).cell (i := t) (c := 0) (by omega) (by omega)).1
    rw [← hd]
    refine (Go.Proofs.Any.sort_Slice_cells_sorted Try.laysGg6 46 77 hsT hsE (by kernel_rfl) (by kernel_rfl) (by kernel_rfl) (by kernel_rfl) 25 (fun _ => by kernel_rfl) hcs 2 (fun _ => rfl) (by kernel_rfl) (fun _ => by kernel_rfl)
      (fun x v hv => hcs_one x v hv) hlt swo_hlt 115 _
      (enters_of Try.func115 (by kernel_rfl) rfl) g 0 c s.toArray (by omega) (by omega) 142 (by rw [hsK _ (by omega)]; kernel_rfl) false
      (fun args W => Go.run_callFunc_extern Try.func142 (by kernel_rfl) (by kernel_rfl) (by kernel_rfl) (e := Extern.ReflectliteSwapper.swap false) (by kernel_rfl) args W) w hless hH hg).mono ?_
    rintro e w' ⟨rfl, d', n, os, hP, hS, rfl⟩
    have hsd : d'.size = s.toArray.size := hP.1
    have hperm : d'.toList.Perm s := by
      have h1 := hP.2.2
      have e1 : (s.toArray.extract 0 s.toArray.size).toList = s := by simp
      have e2 : (d'.extract 0 s.toArray.size).toList = d'.toList := by rw [← hsd]; simp
      rw [e1, e2] at h1
      exact h1
    have hndd : (ad d'.toList).Nodup := (hperm.map Prod.fst).nodup_iff.2 hnd
    have hgrow : Below B w (Go.Sort.putRowK hcs 2 (Go.Sort.ahead w n) g 0 d') := (but1_putV id w n g 0 (Go.Sort.flatK hcs 2 d')).below hBg hB
    have htg : ∃ cs p, (Go.Sort.grow (Go.Sort.putRowK hcs 2 (Go.Sort.ahead w n) g 0 d') os).heap[g]? = some (.cells cs 77 p) := by
      rcases hty with h | ⟨b, off, cs, p, e, h⟩
      · rw [h] at h2; simp at h2
      · cases e
        have hgl : g < (Go.Sort.putRowK hcs 2 (Go.Sort.ahead w n) g 0 d').heap.size := by have := hgrow.size; omega
        simp only [Go.Sort.grow]
        rw [Array.getElem?_append_left hgl]
        simp only [Go.Sort.putRowK, Go.Sort.putRow, Go.Sort.mapBlock, Array.getElem?_modify, Go.Sort.heap_ahead, if_true, h, Option.map_some, Go.Sort.onCells]
        exact ⟨_, _, rfl⟩
    obtain ⟨csg, pg, htg⟩ := htg
    refine ⟨rfl, d'.toList, hperm, sorted_inc hndd (fun i j hi hj hij => ?_), ⟨⟨.inr ⟨g, 0, rfl, fun k x hk => ?_⟩, fun x hx => hi x (hperm.mem_iff.1 hx)⟩, .inr ⟨g, 0, csg, pg, rfl, htg⟩⟩, below_grow os hgrow hB⟩
    · have h1 := hS i j (by omega) hij (by have : d'.toList.length = d'.size := by simp
                                           omega)
      rw [getElem!_pos d' i (by simpa using hi), getElem!_pos d' j (by simpa using hj)] at h1
      simp only [hlt, decide_eq_false_iff_not] at h1
      simpa using h1
    · have hk2 : k < d'.size := by have := (List.getElem?_eq_some_iff.1 hk).1; simpa using this
      have hx : d'[k]! = x := by
        rw [getElem!_pos d' k hk2]
        have := (List.getElem?_eq_some_iff.1 hk).2
        simpa using this
      have hh := Go.Sort.holdsK_grow hcs 2 _ os g 0 d' (by have := hgrow.size; omega) (Go.Sort.holdsK_putRowK hcs 2 (Go.Sort.ahead w n) g 0 s.toArray d' (Go.Sort.holdsK_ahead _ _ _ n _ _ _ hH) hsd)
      have q0 := (hh.cell (i := k) (c := 0) hk2 (by omega)).1
      have q1 := (hh.cell (i := k) (c := 1) hk2 (by omega)).1
      rw [hx] at q0 q1
      exact ⟨by simpa [hcs] using q0, by simpa [hcs, Nat.add_assoc] using q1⟩
  · have h01 : s.length = 0 ∨ s.length = 1 := by omega
    have hinc : Inc (ad s) := by
      rcases h01 with h | h
      · rw [List.eq_nil_of_length_eq_zero h]; exact inc_nil
      · obtain ⟨x, rfl⟩ := List.length_eq_one_iff.1 h
        exact List.pairwise_singleton _ _
    have tiny : ∀ (f : Nat), Try.prog.funcs.findIdx? (·.name == "internal/reflectlite" ++ ".Swapper$" ++ toString (Lib.swapperK s.length hsE 25)) = some f → Calls Try.prog 114 #[.iface 46 (.slice a s.length c), .func (.func 115) #[] #[.pointer (some ⟨N, 0, none⟩)]] w fun e w' => e = .returned (.tuple #[]) ∧ ∃ os, w' = Go.Sort.grow w os := fun f hf =>
      Go.Proofs.Any.sort_Slice_tiny Try.laysGg6 46 77 hsT hsE (by kernel_rfl) (by kernel_rfl) (by kernel_rfl) (by kernel_rfl) 25 (fun _ => by kernel_rfl) a s.length c (by omega) f hf (.func 115) #[] #[.pointer (some ⟨N, 0, none⟩)] w
    have hs : HT w a s := own_ht hown rfl hi
    have fin : ∀ (f : Nat), Try.prog.funcs.findIdx? (·.name == "internal/reflectlite" ++ ".Swapper$" ++ toString (Lib.swapperK s.length hsE 25)) = some f → Calls Try.prog 114 #[.iface 46 (.slice a s.length c), .func (.func 115) #[] #[.pointer (some ⟨N, 0, none⟩)]] w fun e w' =>
      e = .returned (.tuple #[]) ∧ ∃ d : List Hd, d.Perm s ∧ Inc (ad d) ∧ HT w' a d ∧ Below B w w' := fun f hf => (tiny f hf).mono (by
        rintro e w' ⟨rfl, os, rfl⟩
        exact ⟨rfl, s, List.Perm.refl _, hinc, hs.below (below_grow os (Below.refl _ w) (Nat.le_refl _)), below_grow os (Below.refl _ w) hB⟩)
    rcases h01 with h | h
    · exact fin 134 (by rw [h]; kernel_rfl)
    · exact fin 135 (by rw [h]; kernel_rfl)
end Go.Proofs.Ytllpmepmgnnoaaa
/- What tells which sources stay: the closures; sets that are kept. -/
namespace Go.Proofs.Ytllpmepmgnnoaaa
set_option linter.unusedVariables false
open Go.RowKit

theorem cKeep (B : Nat) (la : Option Addr) (ln lc : Nat) (xs : List Int) (x : Hd) (w : World) (hx : xs.length = ln) (hm : ln ≤ 1000000) (hB : w.cell? ⟨B, 0, none⟩ = some (.slice la ln lc)) (h : As w la xs) :
    Calls Try.prog 112 #[.agg #[.int .u32 x.1, .int .i64 x.2], .pointer (some ⟨B, 0, none⟩)] w fun e w' => e = .returned (.bool (!decide (x.1 ∈ xs))) ∧ Below w.heap.size w w' := by
  obtain ⟨x1, x2⟩ := x
  have HX := Lib.hid hx
  have hb := bel1 w (.cells #[.int .u32 x1, .int .i64 x2] 77)
  have c0 := (hb.cell (cell_lt hB)).trans hB
  have H := Lib.hid (h.below hb)
  have HB := Lib.hid hb
  clear hx h hB hb
  go_enter Try.func112, Try.ntmps112
  go_wp2_with fail
  refine (sHas la ln lc xs x1 _ HX.out (by omega) H.out).mono ?_
  rintro e w1 ⟨rfl, rfl⟩
  go_wp2_with fail
  go_ret
  exact ⟨rfl, HB.out⟩
theorem cEx (B : Nat) (la : Option Addr) (ln lc : Nat) (xs : List Int) (x : Hd) (w : World) (hx : xs.length = ln) (hm : ln ≤ 1000000) (hB : w.cell? ⟨B, 0, none⟩ = some (.slice la ln lc)) (h : As w la xs) :
    Calls Try.prog 117 #[.agg #[.int .u32 x.1, .int .i64 x.2], .pointer (some ⟨B, 0, none⟩)] w fun e w' => e = .returned (.bool (decide (x.1 ∈ xs))) ∧ Below w.heap.size w w' := by
  obtain ⟨x1, x2⟩ := x
  have HX := Lib.hid hx
  have hb := bel1 w (.cells #[.int .u32 x1, .int .i64 x2] 77)
  have c0 := (hb.cell (cell_lt hB)).trans hB
  have H := Lib.hid (h.below hb)
  have HB := Lib.hid hb
  clear hx h hB hb
  go_enter Try.func117, Try.ntmps117
  go_wp2_with fail
  refine (sHas la ln lc xs x1 _ HX.out (by omega) H.out).mono ?_
  rintro e w1 ⟨rfl, rfl⟩
  go_wp2_with fail
  go_ret
  exact ⟨rfl, HB.out⟩
theorem cAsk (B : Nat) (la : Int) (x : Hd) (w : World) (hB : w.cell? ⟨B, 5, none⟩ = some (.int .i64 la)) :
    Calls Try.prog 118 #[.agg #[.int .u32 x.1, .int .i64 x.2], .pointer (some ⟨B, 0, none⟩)] w fun e w' => e = .returned (.bool (decide (la < x.2))) ∧ Below w.heap.size w w' := by
  obtain ⟨x1, x2⟩ := x
  have hb := bel1 w (.cells #[.int .u32 x1, .int .i64 x2] 77)
  have c0 := (hb.cell (cell_lt hB)).trans hB
  have HB := Lib.hid hb
  clear hB hb
  go_enter Try.func118, Try.ntmps118
  go_wp2_with fail
  go_ret
  exact ⟨rfl, HB.out⟩
theorem cWant (x : Hd) (w : World) :
    Calls Try.prog 119 #[.agg #[.int .u32 x.1, .int .i64 x.2]] w fun e w' => e = .returned (.bool (decide (0 < x.2))) ∧ Below w.heap.size w w' := by
  obtain ⟨x1, x2⟩ := x
  go_enter Try.func119, Try.ntmps119
  go_wp2_with fail
  go_ret
  exact ⟨rfl, bel1 w _⟩
theorem cTick (B N : Nat) (ex : Bool) (n : Int) (x : Hd) (w : World) (hB : w.cell? ⟨B, 1, none⟩ = some (.bool ex)) (hN : w.cell? ⟨N, 0, none⟩ = some (.int .i64 n)) :
    Calls Try.prog 58 #[.agg #[.int .u32 x.1, .int .i64 x.2], .pointer (some ⟨B, 0, none⟩), .pointer (some ⟨N, 0, none⟩)] w fun e w' => e = .returned (.bool (ex || decide (n < x.2))) ∧ Below w.heap.size w w' := by
  obtain ⟨x1, x2⟩ := x
  have hb := bel1 w (.cells #[.int .u32 x1, .int .i64 x2] 77)
  have c0 := (hb.cell (cell_lt hB)).trans hB
  have c1 := (hb.cell (cell_lt hN)).trans hN
  have HB := Lib.hid hb
  clear hB hN hb
  cases ex
  all_goals
    go_enter Try.func58, Try.ntmps58
    go_wp2_with fail
    go_ret
    exact ⟨rfl, HB.out⟩
theorem cWants (N : Nat) (a : Int) (x : Hd) (w : World) (hN : w.cell? ⟨N, 0, none⟩ = some (.int .u32 a)) :
    Calls Try.prog 60 #[.agg #[.int .u32 x.1, .int .i64 x.2], .pointer (some ⟨N, 0, none⟩)] w fun e w' => e = .returned (.bool (x.1 == a)) ∧ Below w.heap.size w w' := by
  obtain ⟨x1, x2⟩ := x
  have hb := bel1 w (.cells #[.int .u32 x1, .int .i64 x2] 77)
  have c0 := (hb.cell (cell_lt hN)).trans hN
  have HB := Lib.hid hb
  clear hN hb
  go_enter Try.func60, Try.ntmps60
  go_wp2_with fail
  go_ret
  exact ⟨rfl, HB.out⟩
/-- A record that is heard: its seven cells. -/
def hcl (g : Int) (ex : Bool) (left : Int) (a : Option Addr) (n c : Nat) (k la : Int) (q : Value) : Array Value := #[.int .u32 g, .bool ex, .int .i64 left, .slice a n c, .int .i64 k, .int .i64 la, q]
def mcl (g : Int) (ex : Bool) (left : Int) (a : Option Addr) (n c : Nat) : Array Value := #[.int .u32 g, .bool ex, .int .i64 left, .slice a n c]
theorem hear_new (w : World) (v0 v1 v2 v3 v4 v5 v6 : Value) : ∀ W, Below (w.heap.size + 1) (w.alloc (.cells #[v0, v1, v2, v3, v4, v5, v6] 106)) W → W.cell? ⟨w.heap.size, 0, none⟩ = some v0 ∧ W.cell? ⟨w.heap.size, 1, none⟩ = some v1 ∧ W.cell? ⟨w.heap.size, 2, none⟩ = some v2 ∧ W.cell? ⟨w.heap.size, 3, none⟩ = some v3 ∧ W.cell? ⟨w.heap.size, 4, none⟩ = some v4 ∧ W.cell? ⟨w.heap.size, 5, none⟩ = some v5 ∧ W.cell? ⟨w.heap.size, 6, none⟩ = some v6 := by
  intro W hb
  have hN := (hb.block w.heap.size (by omega)).trans (Go.Deep.blk_alloc_new w (.cells #[v0, v1, v2, v3, v4, v5, v6] 106))
  exact ⟨by simp only [World.cell?, hN]; rfl, by simp only [World.cell?, hN]; rfl, by simp only [World.cell?, hN]; rfl, by simp only [World.cell?, hN]; rfl, by simp only [World.cell?, hN]; rfl, by simp only [World.cell?, hN]; rfl, by simp only [World.cell?, hN]; rfl⟩
set_option maxRecDepth 100000 in
set_option maxHeartbeats 4000000 in
/-- The sources that are wanted by themselves. -/
theorem mWanted (g : Int) (ex : Bool) (left : Int) (a : Option Addr) (n c : Nat) (k la : Int) (q : Value) (s : List Hd) (w : World) (hx : s.length = n) (hn : n ≤ 100000) (hH : Hs w a s) :
    Calls Try.prog 96 #[.agg (hcl g ex left a n c k la q)] w fun e w' => OutV w e w' (ad (s.filter fun x => decide (0 < x.2))) := by
  have HX := Lib.hid hx
  have HH := Lib.hid hH
  clear hx hH
  unfold hcl
  go_enter Try.func96, Try.ntmps96
  go_wp2_with fail
  have hb := bel1 w (.cells #[.int .u32 g, .bool ex, .int .i64 left, .slice a n c, .int .i64 k, .int .i64 la, q] 106)
  have HB := Lib.hid hb
  refine (mThoseW (fun x => decide (0 < x.2)) a n c s _ HX.out hn (HH.out.below hb) (fun w1 x _ _ => cWant x w1)).mono ?_
  rintro e w1 ⟨⟨a1, c1, rfl, ho1⟩, hb1⟩
  have HS := Lib.hid (own_hs ho1 rfl (ins_filter _ HH.out.2))
  have HB1 := Lib.hid (hb.trans (hb1.mono hb.size))
  have hl : (s.filter fun x => decide (0 < x.2)).length ≤ 100000 := Nat.le_trans (List.length_filter_le _ _) (by rw [HX.out]; exact hn)
  clear hb hb1 ho1
  go_wp2_with fail
  refine (mAddrs a1 _ c1 _ _ rfl hl HS.out).mono ?_
  rintro e w2 ⟨⟨a2, c2, rfl, hA2, hf2, hr2⟩, hb2⟩
  have HA2 := Lib.hid hA2
  have HF2 := Lib.hid hf2
  have HR2 := Lib.hid (vown_le hr2 HB1.out.size)
  have HB2 := Lib.hid (HB1.out.trans (hb2.mono HB1.out.size))
  clear hA2 hf2 hb2 hr2
  go_wp2_with fail
  go_ret
  exact ⟨⟨a2, c2, rfl, HA2.out, HF2.out, HR2.out⟩, HB2.out⟩
end Go.Proofs.Ytllpmepmgnnoaaa
/- Variables: what is known, and a record that is heard. -/
namespace Go.Proofs.Ytllpmepmgnnoaaa
set_option linter.unusedVariables false
open Go.RowKit

theorem v_set {w : World} {R j : Nat} {cs : Array Value} {T : TypeId} {v : Value} (h : w.heap[R]? = some (.cells cs T (0, 0))) : (w.setCell ⟨R, j, none⟩ v).heap[R]? = some (.cells (cs.setIfInBounds j v) T (0, 0)) := by
  simp [World.setCell, Array.getElem?_modify, h]
theorem v_blk {w : World} {g : Nat} {o : Obj} (h : w.heap[g]? = some o) (o' : Obj) : (w.alloc o').heap[g]? = some o := (((Below.refl w.heap.size w).alloc (Nat.le_refl _) o').block g (Array.getElem?_eq_some_iff.1 h).1).trans h
/-- Block X is a variable of that type. -/
def HV (w : World) (X : Nat) (g : Int) (ex : Bool) (left : Int) (a : Option Addr) (n : Nat) (c : Nat) (k : Int) (la : Int) (aq : Option Addr) (nq : Nat) (cq : Nat) : Prop := w.heap[X]? = some (.cells #[.int .u32 g, .bool ex, .int .i64 left, .slice a n c, .int .i64 k, .int .i64 la, .slice aq nq cq] 106 (0, 0))
namespace HV
variable {w w' : World} {X R : Nat} {g : Int} {ex : Bool} {left : Int} {a : Option Addr} {n : Nat} {c : Nat} {k : Int} {la : Int} {aq : Option Addr} {nq : Nat} {cq : Nat}
theorem lt (h : HV w X g ex left a n c k la aq nq cq) : X < w.heap.size := (Array.getElem?_eq_some_iff.1 h).1
theorem cells (h : HV w X g ex left a n c k la aq nq cq) : w.cell? ⟨X, 0, none⟩ = some (.int .u32 g) ∧ w.cell? ⟨X, 1, none⟩ = some (.bool ex) ∧ w.cell? ⟨X, 2, none⟩ = some (.int .i64 left) ∧ w.cell? ⟨X, 3, none⟩ = some (.slice a n c) ∧ w.cell? ⟨X, 4, none⟩ = some (.int .i64 k) ∧ w.cell? ⟨X, 5, none⟩ = some (.int .i64 la) ∧ w.cell? ⟨X, 6, none⟩ = some (.slice aq nq cq) ∧ w.frozen? ⟨X, 0, none⟩ = false ∧ w.frozen? ⟨X, 1, none⟩ = false ∧ w.frozen? ⟨X, 2, none⟩ = false ∧ w.frozen? ⟨X, 3, none⟩ = false ∧ w.frozen? ⟨X, 4, none⟩ = false ∧ w.frozen? ⟨X, 5, none⟩ = false ∧ w.frozen? ⟨X, 6, none⟩ = false := by
  have h' : w.heap[X]? = some (.cells #[.int .u32 g, .bool ex, .int .i64 left, .slice a n c, .int .i64 k, .int .i64 la, .slice aq nq cq] 106 (0, 0)) := h
  refine ⟨?_, ?_, ?_, ?_, ?_, ?_, ?_, ?_, ?_, ?_, ?_, ?_, ?_, ?_⟩
  all_goals first
    | (simp [World.cell?, h'])
    | (simp [World.frozen?, h'])
theorem below (h : HV w X g ex left a n c k la aq nq cq) {B : Nat} (hb : Below B w w') (hX : X < B) : HV w' X g ex left a n c k la aq nq cq := (hb.block X hX).trans h
theorem but (h : HV w X g ex left a n c k la aq nq cq) (hb : But1 R w w') (hne : X ≠ R) : HV w' X g ex left a n c k la aq nq cq := (hb.block X h.lt hne).trans h
theorem new (w : World) (g : Int) (ex : Bool) (left : Int) (a : Option Addr) (n : Nat) (c : Nat) (k : Int) (la : Int) (aq : Option Addr) (nq : Nat) (cq : Nat) : HV (w.alloc (.cells #[.int .u32 g, .bool ex, .int .i64 left, .slice a n c, .int .i64 k, .int .i64 la, .slice aq nq cq] 106)) w.heap.size g ex left a n c k la aq nq cq := Go.Deep.blk_alloc_new _ _
theorem keep (h : HV w X g ex left a n c k la aq nq cq) (o : Obj) : HV (w.alloc o) X g ex left a n c k la aq nq cq := h.below (bel1 w o) h.lt
theorem set0 (h : HV w X g ex left a n c k la aq nq cq) (g' : Int) : HV (w.setCell ⟨X, 0, none⟩ (.int .u32 g')) X g' ex left a n c k la aq nq cq := v_set (j := 0) h
theorem set1 (h : HV w X g ex left a n c k la aq nq cq) (ex' : Bool) : HV (w.setCell ⟨X, 1, none⟩ (.bool ex')) X g ex' left a n c k la aq nq cq := v_set (j := 1) h
theorem set2 (h : HV w X g ex left a n c k la aq nq cq) (left' : Int) : HV (w.setCell ⟨X, 2, none⟩ (.int .i64 left')) X g ex left' a n c k la aq nq cq := v_set (j := 2) h
theorem set3 (h : HV w X g ex left a n c k la aq nq cq) (a' : Option Addr) (n' : Nat) (c' : Nat) : HV (w.setCell ⟨X, 3, none⟩ (.slice a' n' c')) X g ex left a' n' c' k la aq nq cq := v_set (j := 3) h
theorem set4 (h : HV w X g ex left a n c k la aq nq cq) (k' : Int) : HV (w.setCell ⟨X, 4, none⟩ (.int .i64 k')) X g ex left a n c k' la aq nq cq := v_set (j := 4) h
theorem set5 (h : HV w X g ex left a n c k la aq nq cq) (la' : Int) : HV (w.setCell ⟨X, 5, none⟩ (.int .i64 la')) X g ex left a n c k la' aq nq cq := v_set (j := 5) h
theorem set6 (h : HV w X g ex left a n c k la aq nq cq) (aq' : Option Addr) (nq' : Nat) (cq' : Nat) : HV (w.setCell ⟨X, 6, none⟩ (.slice aq' nq' cq')) X g ex left a n c k la aq' nq' cq' := v_set (j := 6) h
theorem store (h : HV w X g ex left a n c k la aq nq cq) (g' : Int) (ex' : Bool) (left' : Int) (a' : Option Addr) (n' : Nat) (c' : Nat) (k' : Int) (la' : Int) (aq' : Option Addr) (nq' : Nat) (cq' : Nat) : HV (((((((w.setCell ⟨X, 0, none⟩ (.int .u32 g')).setCell ⟨X, 1, none⟩ (.bool ex')).setCell ⟨X, 2, none⟩ (.int .i64 left')).setCell ⟨X, 3, none⟩ (.slice a' n' c')).setCell ⟨X, 4, none⟩ (.int .i64 k')).setCell ⟨X, 5, none⟩ (.int .i64 la')).setCell ⟨X, 6, none⟩ (.slice aq' nq' cq')) X g' ex' left' a' n' c' k' la' aq' nq' cq' := (((((((h.set0 g').set1 ex').set2 left').set3 a' n' c').set4 k').set5 la').set6 aq' nq' cq')
theorem store_but (h : HV w X g ex left a n c k la aq nq cq) (g' : Int) (ex' : Bool) (left' : Int) (a' : Option Addr) (n' : Nat) (c' : Nat) (k' : Int) (la' : Int) (aq' : Option Addr) (nq' : Nat) (cq' : Nat) : But1 X w (((((((w.setCell ⟨X, 0, none⟩ (.int .u32 g')).setCell ⟨X, 1, none⟩ (.bool ex')).setCell ⟨X, 2, none⟩ (.int .i64 left')).setCell ⟨X, 3, none⟩ (.slice a' n' c')).setCell ⟨X, 4, none⟩ (.int .i64 k')).setCell ⟨X, 5, none⟩ (.int .i64 la')).setCell ⟨X, 6, none⟩ (.slice aq' nq' cq')) := ((((((((But1.refl X w).trans (But1.set _ X 0 _)).trans (But1.set _ X 1 _)).trans (But1.set _ X 2 _)).trans (But1.set _ X 3 _)).trans (But1.set _ X 4 _)).trans (But1.set _ X 5 _)).trans (But1.set _ X 6 _))
theorem load (h : HV w X g ex left a n c k la aq nq cq) : (loadVar 106 ⟨X, 0, none⟩).run Try.prog w = .ok (.agg #[.int .u32 g, .bool ex, .int .i64 left, .slice a n c, .int .i64 k, .int .i64 la, .slice aq nq cq]) w := by
  obtain ⟨c0, c1, c2, c3, c4, c5, c6, -⟩ := h.cells
  clear h
  go_simp
end HV
/-- Block X is a variable of that type. -/
def MV (w : World) (X : Nat) (g : Int) (ex : Bool) (left : Int) (a : Option Addr) (n : Nat) (c : Nat) : Prop := w.heap[X]? = some (.cells #[.int .u32 g, .bool ex, .int .i64 left, .slice a n c] 48 (0, 0))
namespace MV
variable {w w' : World} {X R : Nat} {g : Int} {ex : Bool} {left : Int} {a : Option Addr} {n : Nat} {c : Nat}
theorem lt (h : MV w X g ex left a n c) : X < w.heap.size := (Array.getElem?_eq_some_iff.1 h).1
theorem cells (h : MV w X g ex left a n c) : w.cell? ⟨X, 0, none⟩ = some (.int .u32 g) ∧ w.cell? ⟨X, 1, none⟩ = some (.bool ex) ∧ w.cell? ⟨X, 2, none⟩ = some (.int .i64 left) ∧ w.cell? ⟨X, 3, none⟩ = some (.slice a n c) ∧ w.frozen? ⟨X, 0, none⟩ = false ∧ w.frozen? ⟨X, 1, none⟩ = false ∧ w.frozen? ⟨X, 2, none⟩ = false ∧ w.frozen? ⟨X, 3, none⟩ = false := by
  have h' : w.heap[X]? = some (.cells #[.int .u32 g, .bool ex, .int .i64 left, .slice a n c] 48 (0, 0)) := h
  refine ⟨?_, ?_, ?_, ?_, ?_, ?_, ?_, ?_⟩
  all_goals first
    | (simp [World.cell?, h'])
    | (simp [World.frozen?, h'])
theorem below (h : MV w X g ex left a n c) {B : Nat} (hb : Below B w w') (hX : X < B) : MV w' X g ex left a n c := (hb.block X hX).trans h
theorem but (h : MV w X g ex left a n c) (hb : But1 R w w') (hne : X ≠ R) : MV w' X g ex left a n c := (hb.block X h.lt hne).trans h
theorem new (w : World) (g : Int) (ex : Bool) (left : Int) (a : Option Addr) (n : Nat) (c : Nat) : MV (w.alloc (.cells #[.int .u32 g, .bool ex, .int .i64 left, .slice a n c] 48)) w.heap.size g ex left a n c := Go.Deep.blk_alloc_new _ _
theorem keep (h : MV w X g ex left a n c) (o : Obj) : MV (w.alloc o) X g ex left a n c := h.below (bel1 w o) h.lt
theorem set0 (h : MV w X g ex left a n c) (g' : Int) : MV (w.setCell ⟨X, 0, none⟩ (.int .u32 g')) X g' ex left a n c := v_set (j := 0) h
theorem set1 (h : MV w X g ex left a n c) (ex' : Bool) : MV (w.setCell ⟨X, 1, none⟩ (.bool ex')) X g ex' left a n c := v_set (j := 1) h
theorem set2 (h : MV w X g ex left a n c) (left' : Int) : MV (w.setCell ⟨X, 2, none⟩ (.int .i64 left')) X g ex left' a n c := v_set (j := 2) h
theorem set3 (h : MV w X g ex left a n c) (a' : Option Addr) (n' : Nat) (c' : Nat) : MV (w.setCell ⟨X, 3, none⟩ (.slice a' n' c')) X g ex left a' n' c' := v_set (j := 3) h
theorem store (h : MV w X g ex left a n c) (g' : Int) (ex' : Bool) (left' : Int) (a' : Option Addr) (n' : Nat) (c' : Nat) : MV ((((w.setCell ⟨X, 0, none⟩ (.int .u32 g')).setCell ⟨X, 1, none⟩ (.bool ex')).setCell ⟨X, 2, none⟩ (.int .i64 left')).setCell ⟨X, 3, none⟩ (.slice a' n' c')) X g' ex' left' a' n' c' := ((((h.set0 g').set1 ex').set2 left').set3 a' n' c')
theorem store_but (h : MV w X g ex left a n c) (g' : Int) (ex' : Bool) (left' : Int) (a' : Option Addr) (n' : Nat) (c' : Nat) : But1 X w ((((w.setCell ⟨X, 0, none⟩ (.int .u32 g')).setCell ⟨X, 1, none⟩ (.bool ex')).setCell ⟨X, 2, none⟩ (.int .i64 left')).setCell ⟨X, 3, none⟩ (.slice a' n' c')) := (((((But1.refl X w).trans (But1.set _ X 0 _)).trans (But1.set _ X 1 _)).trans (But1.set _ X 2 _)).trans (But1.set _ X 3 _))
theorem load (h : MV w X g ex left a n c) : (loadVar 48 ⟨X, 0, none⟩).run Try.prog w = .ok (.agg #[.int .u32 g, .bool ex, .int .i64 left, .slice a n c]) w := by
  obtain ⟨c0, c1, c2, c3, -⟩ := h.cells
  clear h
  go_simp
end MV
theorem HV.noH {w : World} {X : Nat} {g : Int} {ex : Bool} {left : Int} {a : Option Addr} {n c : Nat} {k la : Int} {aq : Option Addr} {nq cq : Nat} (h : HV w X g ex left a n c k la aq nq cq) : ∀ o x y, w.cell? ⟨X, o, none⟩ = some (.int .u32 x) → w.cell? ⟨X, o + 1, none⟩ ≠ some (.int .i64 y) := by
  intro o x y h0 h1
  have h' : w.heap[X]? = some (.cells #[.int .u32 g, .bool ex, .int .i64 left, .slice a n c, .int .i64 k, .int .i64 la, .slice aq nq cq] 106 (0, 0)) := h
  simp only [World.cell?, h'] at h0 h1
  match o with
  | 0 => simp at h1
  | 1 => simp at h0
  | 2 => simp at h0
  | 3 => simp at h0
  | 4 => simp at h0
  | 5 => simp at h0
  | 6 => simp at h0
  | o + 7 => simp at h0
theorem MV.noH {w : World} {X : Nat} {g : Int} {ex : Bool} {left : Int} {a : Option Addr} {n c : Nat} (h : MV w X g ex left a n c) : ∀ o x y, w.cell? ⟨X, o, none⟩ = some (.int .u32 x) → w.cell? ⟨X, o + 1, none⟩ ≠ some (.int .i64 y) := by
  intro o x y h0 h1
  have h' : w.heap[X]? = some (.cells #[.int .u32 g, .bool ex, .int .i64 left, .slice a n c] 48 (0, 0)) := h
  simp only [World.cell?, h'] at h0 h1
  match o with
  | 0 => simp at h1
  | 1 => simp at h0
  | 2 => simp at h0
  | 3 => simp at h0
  | o + 4 => simp at h0
theorem As.but {w w' : World} {X : Nat} {a : Option Addr} {xs : List Int} (h : As w a xs) (hb : But1 X w w') (hn : ∀ b off, a = some ⟨b, off, none⟩ → xs ≠ [] → b ≠ X) : As w' a xs := by
  refine ⟨?_, h.2⟩
  rcases h.1 with h1 | ⟨b, off, e, hc⟩
  · exact .inl h1
  · by_cases h0 : xs = []
    · exact .inl h0
    · exact .inr ⟨b, off, e, fun k hk => (hb.cell (cell_lt (hc k hk)) (hn b off e h0)).trans (hc k hk)⟩
theorem vown_but {w w' : World} {X B n size : Nat} {e : TypeId} {v : Value} {xs : List Value} (h : w.ownsRow B e size v n xs) (hb : But1 X w w') (hX : X < B) : w'.ownsRow B e size v n xs := by
  refine ⟨h.1, ?_⟩
  rcases h.2 with h1 | ⟨g, cap, cur, e1, hB, hg, h3⟩
  · exact .inl h1
  · exact .inr ⟨g, cap, cur, e1, hB, (hb.block g (Array.getElem?_eq_some_iff.1 hg).1 (by omega)).trans hg, h3⟩
/-- By the types of their elements: a row isn't the variable. -/
theorem vown_ty {w w' : World} {X B n size : Nat} {e T : TypeId} {v : Value} {xs : List Value} {cs : Array Value} {p : Nat × Nat} (h : w.ownsRow B e size v n xs) (hX : w.heap[X]? = some (.cells cs T p)) (hne : T ≠ e) (hb : But1 X w w') : w'.ownsRow B e size v n xs := by
  refine ⟨h.1, ?_⟩
  rcases h.2 with h1 | ⟨g, cap, cur, e1, hB, hg, h3⟩
  · exact .inl h1
  · refine .inr ⟨g, cap, cur, e1, hB, (hb.block g (Array.getElem?_eq_some_iff.1 hg).1 ?_).trans hg, h3⟩
    intro e2
    subst e2
    rw [hX] at hg
    simp only [Option.some.injEq, Obj.cells.injEq] at hg
    exact hne hg.2.1
end Go.Proofs.Ytllpmepmgnnoaaa
/- Sets in memory of the call's own; the first variables of a record that is heard; keep. -/
namespace Go.Proofs.Ytllpmepmgnnoaaa
set_option linter.unusedVariables false
open Go.RowKit

theorem vInter (a b : Option Addr) (la lb ca cb : Nat) (xs ys : List Int) (w : World) (hx : xs.length = la) (hy : ys.length = lb) (hla : la ≤ 400000) (hlb : lb ≤ 400000) (h1 : As w a xs) (h2 : As w b ys) :
    Calls Try.prog 67 #[.slice a la ca, .slice b lb cb] w fun e w' => OutV w e w' (int xs ys) := by
  have H : ∀ w', Below w.heap.size w w' → Calls Try.prog 88 #[.slice a la ca, .slice b lb cb, .func (.func 89) #[] #[]] w' fun e w2 => OutV w' e w2 (int xs ys) := fun w' hb =>
    ((callsIn_wide (n := 5)).1 (thoseI_in a b la lb ca cb xs ys w' hx hy hla hlb (h1.below hb) (h2.below hb))).mono fun e w2 ⟨v, e1, e2, e3⟩ => by subst e1; exact outv_of e2 (those_isA h1.2 h2.2) e3
  have HH := Lib.hid H
  clear H h1 h2
  go_enter Try.func67, Try.ntmps67
  go_wp2_with (go_at_call 88; refine (HH.out _ (Below.refl _ _)).mono ?_; rintro e w2 ⟨⟨a', c', rfl, hA, hnil, hfr⟩, hB⟩; have HA := Lib.hid hA; have HB := Lib.hid hB; have HN := Lib.hid hnil; have HR := Lib.hid hfr; clear hA hB hnil hfr)
  go_ret
  exact ⟨⟨a', c', rfl, HA.out, HN.out, HR.out⟩, HB.out⟩
theorem vMinus (a b : Option Addr) (la lb ca cb : Nat) (xs ys : List Int) (w : World) (hx : xs.length = la) (hy : ys.length = lb) (hla : la ≤ 400000) (hlb : lb ≤ 400000) (h1 : As w a xs) (h2 : As w b ys) :
    Calls Try.prog 68 #[.slice a la ca, .slice b lb cb] w fun e w' => OutV w e w' (dif xs ys) := by
  have H : ∀ w', Below w.heap.size w w' → Calls Try.prog 88 #[.slice a la ca, .slice b lb cb, .func (.func 90) #[] #[]] w' fun e w2 => OutV w' e w2 (dif xs ys) := fun w' hb =>
    ((callsIn_wide (n := 5)).1 (thoseM_in a b la lb ca cb xs ys w' hx hy hla hlb (h1.below hb) (h2.below hb))).mono fun e w2 ⟨v, e1, e2, e3⟩ => by subst e1; exact outv_of e2 (those_isA h1.2 h2.2) e3
  have HH := Lib.hid H
  clear H h1 h2
  go_enter Try.func68, Try.ntmps68
  go_wp2_with (go_at_call 88; refine (HH.out _ (Below.refl _ _)).mono ?_; rintro e w2 ⟨⟨a', c', rfl, hA, hnil, hfr⟩, hB⟩; have HA := Lib.hid hA; have HB := Lib.hid hB; have HN := Lib.hid hnil; have HR := Lib.hid hfr; clear hA hB hnil hfr)
  go_ret
  exact ⟨⟨a', c', rfl, HA.out, HN.out, HR.out⟩, HB.out⟩
theorem mk3 (w : World) (g : Int) (ex : Bool) (left : Int) (a : Option Addr) (n c : Nat) (k la : Int) (aq : Option Addr) (nq cq : Nat) (b : Option Addr) (ln lc : Nat) (W : World)
    (hW : W = ((w.alloc (.cells #[.int .u32 g, .bool ex, .int .i64 left, .slice a n c, .int .i64 k, .int .i64 la, .slice aq nq cq] 106)).alloc (.cells #[.slice b ln lc] 27)).alloc (.cells #[.int .u32 0, .bool false, .int .i64 0, .slice none 0 0, .int .i64 0, .int .i64 0, .slice none 0 0] 106)) :
    W.heap.size = w.heap.size + 3 ∧ HV W w.heap.size g ex left a n c k la aq nq cq ∧ W.cell? ⟨w.heap.size + 1, 0, none⟩ = some (.slice b ln lc) ∧ HV W (w.heap.size + 2) 0 false 0 none 0 0 0 0 none 0 0 ∧ Below w.heap.size w W := by
  subst hW
  have e1 : (w.alloc (.cells #[.int .u32 g, .bool ex, .int .i64 left, .slice a n c, .int .i64 k, .int .i64 la, .slice aq nq cq] 106)).heap.size = w.heap.size + 1 := World.size_alloc _ _
  have e2 : ((w.alloc (.cells #[.int .u32 g, .bool ex, .int .i64 left, .slice a n c, .int .i64 k, .int .i64 la, .slice aq nq cq] 106)).alloc (.cells #[.slice b ln lc] 27)).heap.size = w.heap.size + 2 := by rw [World.size_alloc, e1]
  have v0 := HV.new w g ex left a n c k la aq nq cq
  have v2 := HV.new ((w.alloc (.cells #[.int .u32 g, .bool ex, .int .i64 left, .slice a n c, .int .i64 k, .int .i64 la, .slice aq nq cq] 106)).alloc (.cells #[.slice b ln lc] 27)) 0 false 0 none 0 0 0 0 none 0 0
  rw [e2] at v2
  have l1 := Go.Deep.blk_alloc_new (w.alloc (.cells #[.int .u32 g, .bool ex, .int .i64 left, .slice a n c, .int .i64 k, .int .i64 la, .slice aq nq cq] 106)) (.cells #[.slice b ln lc] 27)
  rw [e1] at l1
  refine ⟨by rw [World.size_alloc, e2], (v0.keep _).keep _, ?_, v2, (((Below.refl _ w).alloc (Nat.le_refl _) _).alloc (by rw [e1]; omega) _).alloc (by rw [e2]; omega) _⟩
  have l2 := v_blk l1 (.cells #[.int .u32 0, .bool false, .int .i64 0, .slice none 0 0, .int .i64 0, .int .i64 0, .slice none 0 0] 106)
  simp only [World.cell?, l2]
  rfl
theorem mk2 (w : World) (g : Int) (ex : Bool) (left : Int) (a : Option Addr) (n c : Nat) (k la : Int) (aq : Option Addr) (nq cq : Nat) (W : World)
    (hW : W = (w.alloc (.cells #[.int .u32 g, .bool ex, .int .i64 left, .slice a n c, .int .i64 k, .int .i64 la, .slice aq nq cq] 106)).alloc (.cells #[.int .u32 0, .bool false, .int .i64 0, .slice none 0 0, .int .i64 0, .int .i64 0, .slice none 0 0] 106)) :
    W.heap.size = w.heap.size + 2 ∧ HV W w.heap.size g ex left a n c k la aq nq cq ∧ HV W (w.heap.size + 1) 0 false 0 none 0 0 0 0 none 0 0 ∧ Below w.heap.size w W := by
  subst hW
  have e1 : (w.alloc (.cells #[.int .u32 g, .bool ex, .int .i64 left, .slice a n c, .int .i64 k, .int .i64 la, .slice aq nq cq] 106)).heap.size = w.heap.size + 1 := World.size_alloc _ _
  have v0 := HV.new w g ex left a n c k la aq nq cq
  have v2 := HV.new (w.alloc (.cells #[.int .u32 g, .bool ex, .int .i64 left, .slice a n c, .int .i64 k, .int .i64 la, .slice aq nq cq] 106)) 0 false 0 none 0 0 0 0 none 0 0
  rw [e1] at v2
  exact ⟨by rw [World.size_alloc, e1], v0.keep _, v2, ((Below.refl _ w).alloc (Nat.le_refl _) _).alloc (by rw [e1]; omega) _⟩
theorem keepR_ins {s : List Hd} {xs : List Int} {T : Int} (h : InS s) (hx : ∀ x ∈ xs, 0 ≤ x ∧ x ≤ 4294967295) (hT : -9223372036854775808 ≤ T ∧ T ≤ 9223372036854775807) : InS (keepR s xs T) := by
  intro x hm
  unfold keepR at hm
  rcases List.mem_append.1 hm with h1 | h1
  · exact h x (List.mem_filter.1 h1).1
  · obtain ⟨a, ha, rfl⟩ := List.mem_map.1 h1
    exact ⟨hx a ha, hT⟩
theorem keepR_len (s : List Hd) (xs : List Int) (T : Int) : (keepR s xs T).length ≤ s.length + xs.length := by
  unfold keepR
  rw [List.length_append, List.length_map]
  have := List.length_filter_le (fun x : Hd => !decide (x.1 ∈ xs)) s
  omega
/-- What is handed back of a record that is heard: its sources anew. -/
def OutHr (w : World) (e : Ending) (w' : World) (g : Int) (ex : Bool) (left : Int) (s : List Hd) (k la : Int) (q : Value) : Prop :=
  (∃ a c, e = .returned (.agg #[.int .u32 g, .bool ex, .int .i64 left, .slice a s.length c, .int .i64 k, .int .i64 la, q]) ∧ HT w' a s) ∧ Below w.heap.size w w'
set_option maxRecDepth 100000 in
set_option maxHeartbeats 8000000 in
theorem mKeep (g : Int) (ex : Bool) (left : Int) (a : Option Addr) (n c : Nat) (kp la : Int) (aq : Option Addr) (nq cq : Nat) (s : List Hd) (b : Option Addr) (ln lc : Nat) (xs : List Int) (T : Int) (w : World)
    (hx : s.length = n) (hn : n ≤ 100000) (hH : Hs w a s) (hi : Inc (ad s)) (hl : xs.length = ln) (hln : ln ≤ 100000) (hA : As w b xs) (hxi : Inc xs) (hT : -9223372036854775808 ≤ T ∧ T ≤ 9223372036854775807) :
    Calls Try.prog 93 #[.agg #[.int .u32 g, .bool ex, .int .i64 left, .slice a n c, .int .i64 kp, .int .i64 la, .slice aq nq cq], .slice b ln lc, .int .i64 T] w fun e w' => OutHr w e w' g ex left (keepS s xs T) kp la (.slice aq nq cq) := by
  obtain ⟨i0, hi0, hz0, hz1, hz2⟩ := info_parts infoHd
  have HX := Lib.hid hx
  have HH := Lib.hid hH
  have HI := Lib.hid hi
  have HL := Lib.hid hl
  have HA := Lib.hid hA
  have HXI := Lib.hid hxi
  have HT := Lib.hid hT
  clear hx hH hi hl hA hxi hT
  go_enter Try.func93, Try.ntmps93
  go_wp2_with fail
  obtain ⟨w3, hw3⟩ : ∃ w3, w3 = ((w.alloc (.cells #[.int .u32 g, .bool ex, .int .i64 left, .slice a n c, .int .i64 kp, .int .i64 la, .slice aq nq cq] 106)).alloc (.cells #[.slice b ln lc] 27)).alloc (.cells #[.int .u32 0, .bool false, .int .i64 0, .slice none 0 0, .int .i64 0, .int .i64 0, .slice none 0 0] 106) := ⟨_, rfl⟩
  obtain ⟨hs3, v0, l1, v2, hB3⟩ := mk3 w g ex left a n c kp la aq nq cq b ln lc w3 hw3
  rw [← hw3]
  have HS3 := Lib.hid hs3
  have HB3 := Lib.hid hB3
  have V0 := Lib.hid v0
  have L1 := Lib.hid l1
  have V2 := Lib.hid v2
  clear hw3 hs3 v0 l1 v2 hB3
  refine (mThoseK (.pointer (some ⟨w.heap.size + 1, 0, none⟩)) (fun x => !decide (x.1 ∈ xs)) a n c s w3 HX.out hn (HH.out.below HB3.out) (fun w1 x hb _ => cKeep (w.heap.size + 1) b ln lc xs x w1 HL.out (by omega) ((hb.cell (cell_lt L1.out)).trans L1.out) ((HA.out.below HB3.out).below hb))).mono ?_
  rintro e w4 ⟨⟨a4, c4, rfl, ho4⟩, hb4⟩
  rw [HS3.out] at ho4 hb4
  have HO4 := Lib.hid ho4
  have HB4 := Lib.hid (HB3.out.trans (hb4.mono (by omega)))
  have V04 := Lib.hid (V0.out.below hb4 (by omega))
  have V24 := Lib.hid (V2.out.below hb4 (by omega))
  have L14 := Lib.hid ((hb4.cell (p := ⟨w.heap.size + 1, 0, none⟩) (by show w.heap.size + 1 < _; omega)).trans L1.out)
  have HZ4 : Hid (w.heap.size + 3 ≤ w4.heap.size) := Lib.hid (by have := hb4.size; rw [HS3.out] at this; exact this)
  clear ho4 hb4 V0 L1 V2 HB3
  obtain ⟨c0, c1, c2, c3, c4', c5, c6, f0, f1, f2, f3, f4, f5, f6⟩ := V04.out.cells
  have lb := L14.out
  go_wp2
  have VS := Lib.hid (V04.out.set3 a4 (s.filter fun x => !decide (x.1 ∈ xs)).length c4)
  have BS := But1.set w4 w.heap.size 3 (.slice a4 (s.filter fun x => !decide (x.1 ∈ xs)).length c4)
  have HOS := Lib.hid (vown_but HO4.out BS (by omega))
  have V2S := Lib.hid (V24.out.but BS (by omega))
  have HBS := Lib.hid (HB4.out.trans (BS.below (Nat.le_refl _) HB4.out.size))
  have HZS : Hid (w.heap.size + 3 ≤ (w4.setCell ⟨w.heap.size, 3, none⟩ (.slice a4 (s.filter fun x => !decide (x.1 ∈ xs)).length c4)).heap.size) := Lib.hid (Nat.le_trans HZ4.out BS.size)
  clear c0 c1 c2 c3 c4' c5 c6 f0 f1 f2 f3 f4 f5 f6 lb BS HO4 V04 V24 HB4 L14 HZ4
  generalize w4.setCell ⟨w.heap.size, 3, none⟩ (.slice a4 (s.filter fun x => !decide (x.1 ∈ xs)).length c4) = w5 at *
  go_loopw [18] (fun v18 wr => ∃ (k : Nat) (a5 : Option Addr) (n5 c5 : Nat), v18 = .int .i64 (k : Int) ∧ k ≤ ln ∧ n5 = (s.filter (fun x => !decide (x.1 ∈ xs)) ++ (xs.take k).map fun x => (x, T)).length ∧ wr.ownsRow (w.heap.size + 3) 77 2 (.slice a5 n5 c5) n5 (hv (s.filter (fun x => !decide (x.1 ∈ xs)) ++ (xs.take k).map fun x => (x, T))) ∧
    HV wr w.heap.size g ex left a5 n5 c5 kp la aq nq cq ∧ HV wr (w.heap.size + 2) 0 false 0 none 0 0 0 0 none 0 0 ∧ Below w.heap.size w wr ∧ w.heap.size + 3 ≤ wr.heap.size) (fun v _ => ln - (intOf v).toNat)
  case atStart => exact ⟨0, a4, _, c4, rfl, by omega, by simp, by simpa using HOS.out, VS.out, V2S.out, HBS.out, HZS.out⟩
  case round =>
    clear HOS VS V2S HBS HZS
    obtain ⟨k, a5, n5, c5, rfl, hk, hn5, ho, hv0, hv2, hB, hZ⟩ := hrel
    have HN5 := Lib.hid hn5
    have HO := Lib.hid ho
    have V0 := Lib.hid hv0
    have V2 := Lib.hid hv2
    have HB := Lib.hid hB
    have HZ := Lib.hid hZ
    have hol : n5 ≤ 200000 := by
      rw [hn5, List.length_append, List.length_map]
      have h1 := List.length_filter_le (fun x : Hd => !decide (x.1 ∈ xs)) s
      have h2 := List.length_take_le' k xs
      have h3 := HX.out
      have h4 := HL.out
      omega
    clear hn5 ho hv0 hv2 hB hZ
    obtain ⟨c0, c1, c2, c3, c4', c5', c6, f0, f1, f2, f3, f4, f5, f6⟩ := V0.out.cells
    by_cases hlt : k < ln
    · obtain ⟨b', off, rfl, hc⟩ := HA.out.at (k := k) (by rw [HL.out]; exact hlt)
      have d0 := (HB.out.cell (cell_lt (hc k (by rw [HL.out]; exact hlt)))).trans (hc k (by rw [HL.out]; exact hlt))
      have hkz : (k : Int) < (ln : Int) := by omega
      have HTK : Hid (xs.take (k + 1) = xs.take k ++ [xs.getD k 0]) := Lib.hid (takeH (by simp [List.getD_eq_getElem?_getD, HL.out, hlt]))
      clear hc
      generalize hy : xs.getD k 0 = y at *
      clear hy
      have hn1 := news_new wr [.int .u32 y, .int .i64 T] 77
      have HN1 := Lib.hid hn1
      clear hn1
      go_wp2_with ((refine wpList_app_cell rfl 46 77 i0 _ 2 16 Try.underlying46 hi0 hz0 hz1 hz2 rfl (by decide) (by omega) (.tmp 24) (.tmp 28) rfl (w.heap.size + 3) _ n5 (hv (s.filter (fun x => !decide (x.1 ∈ xs)) ++ (xs.take k).map fun x => (x, T))) rfl (HO.out.alloc _) ⟨wr.heap.size, 0, none⟩ 1 [.int .u32 y, .int .i64 T] rfl rfl HN1.out (by simp [Value.oneCell']) (by omega) (by have := HZ.out; simp; omega) ?_; intro a' cap' w' hown hg; have hbb : Hid (Below (w.heap.size + 3) wr w') := Lib.hid (((Below.refl _ wr).alloc HZ.out _).trans (grown_below (HO.out.alloc _) hg.out (by have := HZ.out; simp; omega))); have V0' := Lib.hid (V0.out.below hbb.out (by omega)); have V2' := Lib.hid (V2.out.below hbb.out (by omega)); clear c0 c1 c2 c3 c4' c5' c6 f0 f1 f2 f3 f4 f5 f6 d0; obtain ⟨c0, c1, c2, c3, c4', c5', c6, f0, f1, f2, f3, f4, f5, f6⟩ := V0'.out.cells))
      go_roundw
      case rel =>
        have BS := But1.set w' w.heap.size 3 (.slice a' (n5 + 1) cap')
        have e : s.filter (fun x => !decide (x.1 ∈ xs)) ++ (xs.take (k + 1)).map (fun x => (x, T)) = (s.filter (fun x => !decide (x.1 ∈ xs)) ++ (xs.take k).map fun x => (x, T)) ++ [(y, T)] := by rw [HTK.out]; simp
        refine ⟨k + 1, a', n5 + 1, cap', by go_num, by omega, by rw [e, List.length_append, ← HN5.out]; rfl, ?_, V0'.out.set3 a' (n5 + 1) cap', V2'.out.but BS (by omega), HB.out.trans ((hbb.out.mono (by omega)).trans (BS.below (Nat.le_refl _) (Nat.le_trans (by have := HB.out.size; omega) hbb.out.size))), Nat.le_trans (Nat.le_trans HZ.out hbb.out.size) BS.size⟩
        rw [e, hv_append, hv_one']
        exact vown_but hown.out BS (by omega)
      case measure => simp [intOf]; omega
    · obtain rfl : k = ln := by omega
      have htk : xs.take k = xs := List.take_of_length_le (by rw [HL.out]; exact Nat.le_refl _)
      have HN5' := HN5.out
      have HO' := HO.out
      rw [htk] at HN5' HO'
      obtain rfl : n5 = (keepR s xs T).length := HN5'
      have HO2 : Hid (wr.ownsRow (w.heap.size + 3) 77 2 (.slice a5 (keepR s xs T).length c5) (keepR s xs T).length (hv (keepR s xs T))) := Lib.hid HO'
      clear HO HN5 HO' htk
      go_wp2_with fail
      refine (mSort w.heap.size (w.heap.size + 3) c5 a5 (keepR s xs T) wr HO2.out HZ.out V0.out.cells.2.2.2.1 (by omega) (keepR_ins HH.out.2 (isA_iff.1 HA.out.2) HT.out) (keepR_nodup T HI.out HXI.out) (by omega)).mono ?_
      rintro e w6 ⟨rfl, d, hp, hinc, hHd, hb6⟩
      obtain rfl := keep_sorted HI.out HXI.out hp hinc
      have HLE := Lib.hid hp.length_eq
      have HD := Lib.hid hHd
      have HB6 := Lib.hid (HB.out.trans (hb6.mono (by omega)))
      have V06 := Lib.hid (V0.out.below hb6 (by omega))
      have V26 := Lib.hid (V2.out.below hb6 (by omega))
      clear c0 c1 c2 c3 c4' c5' c6 f0 f1 f2 f3 f4 f5 f6 hp hinc hHd hb6 V0 V2 HB HO2 HZ
      obtain ⟨c0, c1, c2, c3, c4', c5', c6, f0, f1, f2, f3, f4, f5, f6⟩ := V06.out.cells
      obtain ⟨d0, d1, d2, d3, d4, d5, d6, e0, e1, e2, e3, e4, e5, e6⟩ := V26.out.cells
      go_wp2_with fail
      refine ret_cell1 (p := 6) rfl rfl rfl (V26.out.store g ex left a5 (keepR s xs T).length c5 kp la aq nq cq).load ?_
      have BS := V26.out.store_but g ex left a5 (keepR s xs T).length c5 kp la aq nq cq
      refine ⟨⟨a5, c5, by rw [HLE.out], HD.out.other V26.out.noH BS⟩, HB6.out.trans (BS.below (by omega) HB6.out.size)⟩
end Go.Proofs.Ytllpmepmgnnoaaa
