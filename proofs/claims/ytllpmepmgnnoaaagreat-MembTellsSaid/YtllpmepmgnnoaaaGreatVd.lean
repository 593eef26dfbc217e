/- sort.Slice of sources that are kept, by their addresses. -/
import Derived.Test.YtllpmepmgnnoaaaGreatVb
import Derived.Test.YtllpmepmgnnoaaaGreatShelf
import Derived.BigQuiet
import Derived.Laws.Externs
import Derived.Shelf.GgSortFunc.Tiny
import Derived.Shelf.SlSortFuncK.WholeK
namespace Go.Proofs.YtllpmepmgnnoaaaGreat
set_option linter.unusedVariables false
open Go.RowKit

noncomputable def hsT : TypeInfo := (Tryz.prog.info? 26).get (by kernel_rfl)
noncomputable def hsE : TypeInfo := (Tryz.prog.info? 50).get (by kernel_rfl)
theorem hsK (n : Nat) (h2 : 2 ≤ n) : Lib.swapperK n hsE 25 = 9 := by
  have a : hsE.hasPointers = false := by kernel_rfl
  have b : hsE.bytes = 16 := by kernel_rfl
  have c : (n == 0) = false := by simp; omega
  have d : (n == 1) = false := by simp; omega
  simp [Lib.swapperK, a, b, c, d]
def hlt (x y : Hd) : Bool := decide (x.1 < y.1)
theorem swo_hlt : Go.Sort.SWO hlt where
  irrefl := fun x => by simp [hlt]
  trans := fun x y z h1 h2 => by simp [hlt] at *; omega
  ntrans := fun x y z h1 h2 => by simp [hlt] at *; omega
theorem vLess (x y : Int) (w : World) : Calls Tryz.prog 72 #[.int .u32 x, .int .u32 y] w fun e w' => e = .returned (.bool (decide (x < y))) ∧ w' = w := by
  go_enter Tryz.func72, Tryz.ntmps72
  go_wp2
  go_ret
  exact ⟨rfl, rfl⟩
set_option maxHeartbeats 2000000 in
/-- What the sort asks. -/
theorem mLess (B b off c size : Nat) (W : World) (G : Nat → Int) (hs : W.cell? ⟨B, 3, none⟩ = some (.slice (some ⟨b, off, none⟩) size c))
    (hc : ∀ t, t < size → W.cell? ⟨b, off + t * 2, none⟩ = some (.int .u32 (G t))) (i j : Nat) (hi : i < size) (hj : j < size) (hsz : size < 4611686018427387904) :
    Calls Tryz.prog 71 #[.int .i64 i, .int .i64 j, .pointer (some ⟨B, 0, none⟩)] W fun e w' => e = .returned (.bool (decide (G i < G j))) ∧ ∃ q, w' = W.drewN q := by
  have c0 : ∀ q, (W.drewN q).cell? ⟨B, 3, none⟩ = some (.slice (some ⟨b, off, none⟩) size c) := fun q => hs
  have c1 : ∀ q, (W.drewN q).cell? ⟨b, off + i * 2, none⟩ = some (.int .u32 (G i)) := fun q => hc i hi
  have c2 : ∀ q, (W.drewN q).cell? ⟨b, off + j * 2, none⟩ = some (.int .u32 (G j)) := fun q => hc j hj
  have i0 : (0 : Int) ≤ (i : Int) := by omega
  have i1 : (i : Int) < (size : Int) := by omega
  have j0 : (0 : Int) ≤ (j : Int) := by omega
  have j1 : (j : Int) < (size : Int) := by omega
  clear hs hc
  go_enter Tryz.func71, Tryz.ntmps71
  go_wp2
  go_quiet (first | (go_at_call 72; refine Calls.quiet_of_same (vLess _ _ _)))
  go_wp2
  go_ret
  exact ⟨rfl, _, rfl⟩
theorem but1_putV {α : Type} [Inhabited α] (enc : α → Value) (w : World) (q g off : Nat) (d : Array α) : But1 g w (Go.Sort.putRow enc (Go.Sort.ahead w q) g off d) :=
  ⟨rfl, rfl, rfl, by simp, fun k hk hne => by
    simp only [Go.Sort.putRow, Go.Sort.mapBlock, Array.getElem?_modify, Go.Sort.heap_ahead, if_neg (Ne.symm hne)]⟩
theorem below_grow {B : Nat} {w w' : World} (os : Array Obj) (h : Below B w w') (hB : B ≤ w.heap.size) : Below B w (Go.Sort.grow w' os) :=
  ⟨h.os, h.tape, h.output, by have := h.size; simp only [Go.Sort.grow, Array.size_append]; omega, fun k hk => by
    have h1 := h.size
    simp only [Go.Sort.grow]
    rw [Array.getElem?_append_left (by omega)]
    exact h.block k hk⟩
theorem get_list! (s : List Hd) (i : Nat) (h : i < s.length) : s.toArray[i]! = s[i] := by
  rw [getElem!_pos s.toArray i (by simpa using h)]
  simp
theorem own_holds {w : World} {B : Nat} {c : Nat} {s : List Hd} {a : Option Addr} (h : w.ownsRow B 50 2 (.slice a s.length c) s.length (hv s)) (hn : 0 < s.length) : ∃ g, a = some ⟨g, 0, none⟩ ∧ B ≤ g ∧ g < w.heap.size ∧ Go.Sort.HoldsK hcs 2 w g 0 s.toArray := by
  obtain ⟨hl, h⟩ := h
  rcases h with ⟨_, e⟩ | ⟨g, cap, cur, e, hB, hg, hnc, _, hsz, htk⟩
  · omega
  · simp at e
    obtain ⟨rfl, rfl⟩ := e
    refine ⟨g, rfl, hB, (Array.getElem?_eq_some_iff.1 hg).1, fun j hj => ?_⟩
    rw [Go.Sort.size_flatK] at hj
    have hj2 : j < s.length * 2 := by simpa using hj
    refine ⟨?_, by simp [World.frozen?, hg]⟩
    rw [Go.Sort.get_flatK _ _ _ _ hj, Nat.zero_add, get_list! s (j / 2) (by omega)]
    have h1 := hv_at s (j / 2) s[j / 2] (List.getElem?_eq_getElem (by omega)) (j % 2) (by omega)
    rw [show j / 2 * 2 + j % 2 = j by omega, ← htk, List.getElem?_take_of_lt (by omega)] at h1
    have h2 : (hcs s[j / 2])[j % 2]? = some (hcs s[j / 2])[j % 2]! := by
      rw [List.getElem?_eq_getElem (by simp [hcs]; omega), getElem!_pos (hcs s[j / 2]) (j % 2) (by simp [hcs]; omega)]
    rw [h2] at h1
    simp only [World.cell?, hg, id]
    simpa using h1
set_option maxHeartbeats 2000000 in
/-- The row of sources is sorted by addresses. -/
theorem mSort (N B c : Nat) (a : Option Addr) (s : List Hd) (w : World) (hown : w.ownsRow B 50 2 (.slice a s.length c) s.length (hv s)) (hB : B ≤ w.heap.size) (hN : w.cell? ⟨N, 3, none⟩ = some (.slice a s.length c)) (hNB : N < B)
    (hi : InS s) (hnd : (ad s).Nodup) (hsz : s.length ≤ 1000000) :
    Calls Tryz.prog 70 #[.iface 26 (.slice a s.length c), .func (.func 71) #[] #[.pointer (some ⟨N, 0, none⟩)]] w fun e w' =>
      e = .returned (.tuple #[]) ∧ ∃ d : List Hd, d.Perm s ∧ Inc (ad d) ∧ HT w' a d ∧ Below B w w' := by
  by_cases h2 : 2 ≤ s.length
  · have hty := (own_ht hown rfl hi).2
    obtain ⟨g, rfl, hBg, hg, hH⟩ := own_holds hown (by omega)
    have hd : s.toArray.size = s.length := by simp
    have hless : Go.Proofs.LessReadsK Tryz.prog 71 #[.pointer (some ⟨N, 0, none⟩)] hcs 2 hlt g 0 s.toArray.size w := by
      intro m os dk hs i j hi hj
      have e : Go.Proofs.sortWorldK hcs 2 w g 0 m dk os = Go.Sort.putRowK hcs 2 (Go.Sort.grow (Go.Sort.ahead w m) os) g 0 dk := by
        unfold Go.Proofs.sortWorldK; rw [Go.Sort.putRowK_grow _ _ (Go.Sort.ahead w m) _ g 0 _ hg]
      have hHg : Go.Sort.HoldsK hcs 2 (Go.Sort.grow (Go.Sort.ahead w m) os) g 0 s.toArray := Go.Sort.holdsK_grow _ _ _ _ g 0 s.toArray hg (Go.Sort.holdsK_ahead _ _ _ _ _ _ _ hH)
      refine mLess N g 0 c s.toArray.size _ (fun t => dk[t]!.1) ?_ (fun t ht => ?_) i j hi hj (by omega)
      · rw [e, Go.Sort.cell?_putRowK_other _ _ _ g 0 dk _ (by show N ≠ g; omega), Go.Sort.cell?_grow _ _ _ (by show N < w.heap.size; omega), hd]; exact hN
      · rw [e]; exact ((Go.Sort.holdsK_putRowK _ _ _ g 0 s.toArray dk hHg hs).cell (i := t) (c := 0) (by omega) (by omega)).1
    rw [← hd]
    refine (Go.Proofs.Any.sort_Slice_cells_sorted Tryz.laysGg6 26 50 hsT hsE (by kernel_rfl) (by kernel_rfl) (by kernel_rfl) (by kernel_rfl) 25 (fun _ => by kernel_rfl) hcs 2 (fun _ => rfl) (by kernel_rfl) (fun _ => by kernel_rfl)
      (fun x v hv => hcs_one x v hv) hlt swo_hlt 71 _
      (enters_of Tryz.func71 (by kernel_rfl) rfl) g 0 c s.toArray (by omega) (by omega) 111 (by rw [hsK _ (by omega)]; kernel_rfl) false
      (fun args W => Go.run_callFunc_extern Tryz.func111 (by kernel_rfl) (by kernel_rfl) (by kernel_rfl) (e := Extern.ReflectliteSwapper.swap false) (by kernel_rfl) args W) w hless hH hg).mono ?_
    rintro e w' ⟨rfl, d', n, os, hP, hS, rfl⟩
    have hsd : d'.size = s.toArray.size := hP.1
    have hperm : d'.toList.Perm s := by
      have h1 := hP.2.2
      have e1 : (s.toArray.extract 0 s.toArray.size).toList = s := by simp
      have e2 : (d'.extract 0 s.toArray.size).toList = d'.toList := by rw [← hsd]; simp
      rw [e1, e2] at h1
      exact h1
    have hndd : (ad d'.toList).Nodup := (hperm.map Prod.fst).nodup_iff.2 hnd
    have hgrow : Below B w (Go.Sort.putRowK hcs 2 (Go.Sort.ahead w n) g 0 d') := (but1_putV id w n g 0 (Go.Sort.flatK hcs 2 d')).below hBg hB
    have htg : ∃ cs p, (Go.Sort.grow (Go.Sort.putRowK hcs 2 (Go.Sort.ahead w n) g 0 d') os).heap[g]? = some (.cells cs 50 p) := by
      rcases hty with h | ⟨b, off, cs, p, e, h⟩
      · rw [h] at h2; simp at h2
      · cases e
        have hgl : g < (Go.Sort.putRowK hcs 2 (Go.Sort.ahead w n) g 0 d').heap.size := by have := hgrow.size; omega
        simp only [Go.Sort.grow]
        rw [Array.getElem?_append_left hgl]
        simp only [Go.Sort.putRowK, Go.Sort.putRow, Go.Sort.mapBlock, Array.getElem?_modify, Go.Sort.heap_ahead, if_true, h, Option.map_some, Go.Sort.onCells]
        exact ⟨_, _, rfl⟩
    obtain ⟨csg, pg, htg⟩ := htg
    refine ⟨rfl, d'.toList, hperm, sorted_inc hndd (fun i j hi hj hij => ?_), ⟨⟨.inr ⟨g, 0, rfl, fun k x hk => ?_⟩, fun x hx => hi x (hperm.mem_iff.1 hx)⟩, .inr ⟨g, 0, csg, pg, rfl, htg⟩⟩, below_grow os hgrow hB⟩
    · have h1 := hS i j (by omega) hij (by have : d'.toList.length = d'.size := by simp
                                           omega)
      rw [getElem!_pos d' i (by simpa using hi), getElem!_pos d' j (by simpa using hj)] at h1
      simp only [hlt, decide_eq_false_iff_not] at h1
      simpa using h1
    · have hk2 : k < d'.size := by have := (List.getElem?_eq_some_iff.1 hk).1; simpa using this
      have hx : d'[k]! = x := by
        rw [getElem!_pos d' k hk2]
        have := (List.getElem?_eq_some_iff.1 hk).2
        simpa using this
      have hh := Go.Sort.holdsK_grow hcs 2 _ os g 0 d' (by have := hgrow.size; omega) (Go.Sort.holdsK_putRowK hcs 2 (Go.Sort.ahead w n) g 0 s.toArray d' (Go.Sort.holdsK_ahead _ _ _ n _ _ _ hH) hsd)
      have q0 := (hh.cell (i := k) (c := 0) hk2 (by omega)).1
      have q1 := (hh.cell (i := k) (c := 1) hk2 (by omega)).1
      rw [hx] at q0 q1
      exact ⟨by simpa [hcs] using q0, by simpa [hcs, Nat.add_assoc] using q1⟩
  · have h01 : s.length = 0 ∨ s.length = 1 := by omega
    have hinc : Inc (ad s) := by
      rcases h01 with h | h
      · rw [List.eq_nil_of_length_eq_zero h]; exact inc_nil
      · obtain ⟨x, rfl⟩ := List.length_eq_one_iff.1 h
        exact List.pairwise_singleton _ _
    have tiny : ∀ (f : Nat), Tryz.prog.funcs.findIdx? (·.name == "internal/reflectlite" ++ ".Swapper$" ++ toString (Lib.swapperK s.length hsE 25)) = some f → Calls Tryz.prog 70 #[.iface 26 (.slice a s.length c), .func (.func 71) #[] #[.pointer (some ⟨N, 0, none⟩)]] w fun e w' => e = .returned (.tuple #[]) ∧ ∃ os, w' = Go.Sort.grow w os := fun f hf =>
      Go.Proofs.Any.sort_Slice_tiny Tryz.laysGg6 26 50 hsT hsE (by kernel_rfl) (by kernel_rfl) (by kernel_rfl) (by kernel_rfl) 25 (fun _ => by kernel_rfl) a s.length c (by omega) f hf (.func 71) #[] #[.pointer (some ⟨N, 0, none⟩)] w
    have hs : HT w a s := own_ht hown rfl hi
    have fin : ∀ (f : Nat), Tryz.prog.funcs.findIdx? (·.name == "internal/reflectlite" ++ ".Swapper$" ++ toString (Lib.swapperK s.length hsE 25)) = some f → Calls Tryz.prog 70 #[.iface 26 (.slice a s.length c), .func (.func 71) #[] #[.pointer (some ⟨N, 0, none⟩)]] w fun e w' =>
      e = .returned (.tuple #[]) ∧ ∃ d : List Hd, d.Perm s ∧ Inc (ad d) ∧ HT w' a d ∧ Below B w w' := fun f hf => (tiny f hf).mono (by
        rintro e w' ⟨rfl, os, rfl⟩
        exact ⟨rfl, s, List.Perm.refl _, hinc, hs.below (below_grow os (Below.refl _ w) (Nat.le_refl _)), below_grow os (Below.refl _ w) hB⟩)
    rcases h01 with h | h
    · exact fin 103 (by rw [h]; kernel_rfl)
    · exact fin 104 (by rw [h]; kernel_rfl)
end Go.Proofs.YtllpmepmgnnoaaaGreat
