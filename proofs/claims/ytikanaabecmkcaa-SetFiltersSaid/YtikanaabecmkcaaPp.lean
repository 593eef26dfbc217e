/- The document's own Inter and Minus. -/
import Derived.Test.YtikanaabecmkcaaPk
namespace Go.Proofs.Ytikanaabecmkcaa
set_option linter.unusedVariables false
open Go.RowKit

theorem filt_succ (xs : List Int) (p : Int → Bool) {k : Nat} (h : k < xs.length) : (xs.take (k + 1)).filter p = (xs.take k).filter p ++ (if p (xs.getD k 0) = true then [xs.getD k 0] else []) := by
  rw [List.take_add_one, List.getElem?_eq_getElem h, List.getD_eq_getElem?_getD, List.getElem?_eq_getElem h, List.filter_append]
  simp only [Option.toList, Option.getD_some, List.filter_cons, List.filter_nil]
theorem filt_len (xs : List Int) (p : Int → Bool) (k : Nat) : ((xs.take k).filter p).length ≤ xs.length :=
  Nat.le_trans (List.length_filter_le _ _) (List.length_take_le' _ _)
theorem isA_filter (p : Int → Bool) {xs : List Int} (h : IsA xs) : IsA (xs.filter p) := isA_iff.2 fun z hz => isA_iff.1 h z (List.mem_filter.1 hz).1
theorem inter_int {a b : List Int} (ha : Inc a) (hb : Inc b) : (a.filter fun x => decide (x ∈ b)) = int a b := inc_ext (List.Pairwise.filter _ ha) (int_inc ha hb) fun x => by rw [int_mem ha hb, List.mem_filter]; simp
theorem minus_dif {a b : List Int} (ha : Inc a) (hb : Inc b) : (a.filter fun x => !decide (x ∈ b)) = dif a b := inc_ext (List.Pairwise.filter _ ha) (dif_inc ha hb) fun x => by rw [dif_mem ha hb, List.mem_filter]; simp
set_option maxRecDepth 100000 in
set_option maxHeartbeats 4000000 in
theorem rInter (a b : Option Addr) (n m ca cb : Nat) (xs ys : List Int) (w : World) (hx : xs.length = n) (hy : ys.length = m) (hn : n ≤ 100000) (hm : m ≤ 100000) (h1 : As w a xs) (h2 : As w b ys) :
    Calls Try.prog 23 #[.slice a n ca, .slice b m cb] w fun e w' => Out w e w' (xs.filter fun x => decide (x ∈ ys)) := by
  have HX := Lib.hid hx
  have HY := Lib.hid hy
  have H1 := Lib.hid h1
  have H2 := Lib.hid h2
  have HL := Lib.hid (fun k => filt_len xs (fun x => decide (x ∈ ys)) k)
  clear hx hy h1 h2
  go_enter Try.func23, Try.ntmps23
  go_wp2
  go_loopw [5, 6, 7] (fun v5 v6 v7 wr => ∃ k : Nat, v6 = .int .i64 (k : Int) ∧ k ≤ n ∧ wr.ownsRow w.heap.size 24 1 v5 ((xs.take k).filter fun x => decide (x ∈ ys)).length (va ((xs.take k).filter fun x => decide (x ∈ ys))) ∧ Below w.heap.size w wr) (fun _ v _ _ => n - (intOf v).toNat)
  case atStart => exact ⟨0, rfl, by omega, World.ownsRow_nil _ _ _ _, Below.refl _ _⟩
  case round =>
    obtain ⟨k, rfl, hk, ho, hB⟩ := hrel
    have HO := Lib.hid ho
    have HB := Lib.hid hB
    have hll := HL.out k
    have hll2 : ((xs.take k).filter fun x => decide (x ∈ ys)).length ≤ 100000 := Nat.le_trans (by rw [HX.out] at hll; exact hll) hn
    clear ho hB hll
    by_cases hlt : k < n
    · obtain ⟨b', off, rfl, hc⟩ := (H1.out.below HB.out).at (k := k) (by rw [HX.out]; exact hlt)
      have c1 := hc k (by rw [HX.out]; exact hlt)
      have hkz : (k : Int) < (n : Int) := by omega
      have HS := Lib.hid (filt_succ xs (fun x => decide (x ∈ ys)) (k := k) (by rw [HX.out]; exact hlt))
      have HR := Lib.hid (H1.out.2 k (by rw [HX.out]; exact hlt))
      clear hc
      generalize xs.getD k 0 = y at *
      have HYn := Lib.hid (as_new wr [y] (isA_iff.2 (by intro z hz; simp at hz; subst hz; exact HR.out)))
      have hYn : As (wr.alloc (.cells #[.int .u32 y] 24)) (some ⟨wr.heap.size, 0, none⟩) [y] := HYn.out
      have HYm := Lib.hid hYn
      clear HYn hYn
      go_wp2_with fail
      refine (rHas b m cb ys y _ HY.out (by omega) (H2.out.below HB.out)).mono ?_
      rintro e w2 ⟨rfl, rfl⟩
      by_cases hin : y ∈ ys
      · have HIN := Lib.hid hin
        rw [decide_eq_true hin]
        clear hin
        go_wp2_with (first | (refine wpList_app_as rfl (.tmp 21) (.tmp 26) rfl w.heap.size _ _ _ rfl (HO.out.alloc _) rfl (some ⟨w2.heap.size, 0, none⟩) 1 1 [y] rfl rfl HYm.out (fun e => by cases e) (by omega) (Nat.le_trans HB.out.size (by rw [World.size_alloc]; omega)) ?_; intro a' cap' w' hown hg))
        go_roundw
        case rel =>
          refine ⟨k + 1, by go_num, by omega, ?_, HB.out.trans (((Below.refl _ w2).alloc HB.out.size _).trans (grown_below (HO.out.alloc _) hg.out (Nat.le_trans HB.out.size (by rw [World.size_alloc]; omega))))⟩
          rw [HS.out, if_pos (by simpa using HIN.out), List.length_append]
          exact hown.out
        case measure => simp [intOf]; omega
      · have HIN := Lib.hid hin
        rw [decide_eq_false hin]
        clear hin
        go_wp2_with fail
        go_roundw
        case rel =>
          refine ⟨k + 1, by go_num, by omega, ?_, HB.out⟩
          rw [HS.out, if_neg (by simpa using HIN.out), List.append_nil]
          exact HO.out
        case measure => simp [intOf]; omega
    · obtain rfl : k = n := by omega
      have htk : xs.take k = xs := List.take_of_length_le (by rw [HX.out]; exact Nat.le_refl _)
      have HO' := HO.out
      rw [htk] at HO'
      have HI := isA_filter (fun x => decide (x ∈ ys)) H1.out.2
      have HOo := Lib.hid HO'
      clear HO HO' htk
      go_wp2_with fail
      go_ret
      exact out_of HOo.out HI HB.out
set_option maxRecDepth 100000 in
set_option maxHeartbeats 4000000 in
theorem rMinus (a b : Option Addr) (n m ca cb : Nat) (xs ys : List Int) (w : World) (hx : xs.length = n) (hy : ys.length = m) (hn : n ≤ 100000) (hm : m ≤ 100000) (h1 : As w a xs) (h2 : As w b ys) :
    Calls Try.prog 25 #[.slice a n ca, .slice b m cb] w fun e w' => Out w e w' (xs.filter fun x => !decide (x ∈ ys)) := by
  have HX := Lib.hid hx
  have HY := Lib.hid hy
  have H1 := Lib.hid h1
  have H2 := Lib.hid h2
  have HL := Lib.hid (fun k => filt_len xs (fun x => !decide (x ∈ ys)) k)
  clear hx hy h1 h2
  go_enter Try.func25, Try.ntmps25
  go_wp2
  go_loopw [5, 6, 7] (fun v5 v6 v7 wr => ∃ k : Nat, v6 = .int .i64 (k : Int) ∧ k ≤ n ∧ wr.ownsRow w.heap.size 24 1 v5 ((xs.take k).filter fun x => !decide (x ∈ ys)).length (va ((xs.take k).filter fun x => !decide (x ∈ ys))) ∧ Below w.heap.size w wr) (fun _ v _ _ => n - (intOf v).toNat)
  case atStart => exact ⟨0, rfl, by omega, World.ownsRow_nil _ _ _ _, Below.refl _ _⟩
  case round =>
    obtain ⟨k, rfl, hk, ho, hB⟩ := hrel
    have HO := Lib.hid ho
    have HB := Lib.hid hB
    have hll := HL.out k
    have hll2 : ((xs.take k).filter fun x => !decide (x ∈ ys)).length ≤ 100000 := Nat.le_trans (by rw [HX.out] at hll; exact hll) hn
    clear ho hB hll
    by_cases hlt : k < n
    · obtain ⟨b', off, rfl, hc⟩ := (H1.out.below HB.out).at (k := k) (by rw [HX.out]; exact hlt)
      have c1 := hc k (by rw [HX.out]; exact hlt)
      have hkz : (k : Int) < (n : Int) := by omega
      have HS := Lib.hid (filt_succ xs (fun x => !decide (x ∈ ys)) (k := k) (by rw [HX.out]; exact hlt))
      have HR := Lib.hid (H1.out.2 k (by rw [HX.out]; exact hlt))
      clear hc
      generalize xs.getD k 0 = y at *
      have HYn := Lib.hid (as_new wr [y] (isA_iff.2 (by intro z hz; simp at hz; subst hz; exact HR.out)))
      have hYn : As (wr.alloc (.cells #[.int .u32 y] 24)) (some ⟨wr.heap.size, 0, none⟩) [y] := HYn.out
      have HYm := Lib.hid hYn
      clear HYn hYn
      go_wp2_with fail
      refine (rHas b m cb ys y _ HY.out (by omega) (H2.out.below HB.out)).mono ?_
      rintro e w2 ⟨rfl, rfl⟩
      by_cases hin : y ∈ ys
      · have HIN := Lib.hid hin
        rw [decide_eq_true hin]
        clear hin
        go_wp2_with fail
        go_roundw
        case rel =>
          refine ⟨k + 1, by go_num, by omega, ?_, HB.out⟩
          rw [HS.out, if_neg (by simpa using HIN.out), List.append_nil]
          exact HO.out
        case measure => simp [intOf]; omega
      · have HIN := Lib.hid hin
        rw [decide_eq_false hin]
        clear hin
        go_wp2_with (first | (refine wpList_app_as rfl (.tmp 22) (.tmp 27) rfl w.heap.size _ _ _ rfl (HO.out.alloc _) rfl (some ⟨w2.heap.size, 0, none⟩) 1 1 [y] rfl rfl HYm.out (fun e => by cases e) (by omega) (Nat.le_trans HB.out.size (by rw [World.size_alloc]; omega)) ?_; intro a' cap' w' hown hg))
        go_roundw
        case rel =>
          refine ⟨k + 1, by go_num, by omega, ?_, HB.out.trans (((Below.refl _ w2).alloc HB.out.size _).trans (grown_below (HO.out.alloc _) hg.out (Nat.le_trans HB.out.size (by rw [World.size_alloc]; omega))))⟩
          rw [HS.out, if_pos (by simpa using HIN.out), List.length_append]
          exact hown.out
        case measure => simp [intOf]; omega
    · obtain rfl : k = n := by omega
      have htk : xs.take k = xs := List.take_of_length_le (by rw [HX.out]; exact Nat.le_refl _)
      have HO' := HO.out
      rw [htk] at HO'
      have HI := isA_filter (fun x => !decide (x ∈ ys)) H1.out.2
      have HOo := Lib.hid HO'
      clear HO HO' htk
      go_wp2_with fail
      go_ret
      exact out_of HOo.out HI HB.out
end Go.Proofs.Ytikanaabecmkcaa
