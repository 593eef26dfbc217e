/- The document's own Union. -/
import Derived.Test.YtikanaabecmkcaaPq
namespace Go.Proofs.Ytikanaabecmkcaa
set_option linter.unusedVariables false
open Go.RowKit

theorem flat_nil' {a : Option Addr} {n c : Nat} (h : Flat a n c) : a = none → c = 0 := by
  rintro rfl
  rcases h with ⟨_, _, h⟩ | ⟨_, _, h⟩
  · exact h
  · cases h
theorem isA_app' {a b : List Int} (h1 : IsA a) (h2 : IsA b) : IsA (a ++ b) := isA_iff.2 fun z hz => (List.mem_append.1 hz).elim (isA_iff.1 h1 z) (isA_iff.1 h2 z)
theorem own_new' (w : World) (B : Nat) (hB : B ≤ w.heap.size) : (w.alloc (.cells #[] 24)).ownsRow B 24 1 (.slice (some ⟨w.heap.size, 0, none⟩) 0 0) 0 [] :=
  ⟨rfl, .inr ⟨_, 0, #[], rfl, hB, Go.Deep.blk_alloc_new _ _, Nat.le_refl _, by decide, rfl, rfl⟩⟩
theorem mk_uni (a b : List Int) : mk (a ++ b) = uni (mk a) (mk b) := inc_ext (mk_inc _) (uni_inc (mk_inc _) (mk_inc _)) fun x => by rw [mk_mem, uni_mem (mk_inc _) (mk_inc _), mk_mem, mk_mem, List.mem_append]
set_option maxRecDepth 100000 in
set_option maxHeartbeats 4000000 in
theorem rUnion (a b : Option Addr) (n m ca cb : Nat) (xs ys : List Int) (w : World) (hx : xs.length = n) (hy : ys.length = m) (hn : n ≤ 40000) (hm : m ≤ 40000) (h1 : As w a xs) (h2 : As w b ys) (f1 : a = none → ca = 0) (f2 : b = none → cb = 0) :
    Calls Try.prog 21 #[.slice a n ca, .slice b m cb] w fun e w' => Out w e w' (mk (xs ++ ys)) := by
  have HX := Lib.hid hx
  have HY := Lib.hid hy
  have H1 := Lib.hid h1
  have H2 := Lib.hid h2
  have F1 := Lib.hid f1
  have F2 := Lib.hid f2
  clear hx hy h1 h2 f1 f2
  go_enter Try.func21, Try.ntmps21
  go_wp2_with (first | (refine wpList_app_as rfl (.tmp 5) (.tmp 6) rfl w.heap.size _ 0 [] rfl (own_new' w w.heap.size (Nat.le_refl _)) rfl a n ca xs rfl HX.out (H1.out.below (bel1 w _)) F1.out (by omega) (by simp) ?_; intro a1 c1 wa o1 g1; have G1 := Lib.hid ((bel1 w _).trans (grown_below (own_new' w w.heap.size (Nat.le_refl _)) g1.out (by simp))); clear g1; have o1 := o1.out; rw [Nat.zero_add, List.nil_append] at o1; have O1 := Lib.hid o1; clear o1) | (refine wpList_app_as rfl (.tmp 7) (.tmp 8) rfl w.heap.size _ n xs rfl O1.out HX.out b m cb ys rfl HY.out (H2.out.below G1.out) F2.out (by omega) G1.out.size ?_; intro a2 c2 wb o2 g2; have G2 := Lib.hid (G1.out.trans (grown_below O1.out g2.out G1.out.size)); clear g2))
  have hS := (AsO.of (by simp [HX.out, HY.out]) o2.out).as (isA_app' H1.out.2 H2.out.2)
  have HS := Lib.hid hS
  clear hS
  refine (rMake a2 (n + m) c2 (xs ++ ys) _ (by rw [List.length_append, HX.out, HY.out]) (by omega) HS.out).mono ?_
  rintro e w3 ⟨⟨a3, c3, rfl, hA, hF⟩, hB⟩
  have HA := Lib.hid hA
  have HF := Lib.hid hF
  have HB := Lib.hid (G2.out.trans (hB.mono G2.out.size))
  clear hA hF hB
  go_wp2_with fail
  go_ret
  exact ⟨⟨a3, c3, rfl, HA.out, HF.out⟩, HB.out⟩
end Go.Proofs.Ytikanaabecmkcaa
