/- The library's sort: medians, the choice of a pivot. -/
import Derived.Test.YtllpmepmgnnoaaaGreatNv
namespace Go.Proofs.YtllpmepmgnnoaaaGreat
set_option linter.unusedVariables false
open Go.RowKit
open Go.Sort (PermIn)

set_option maxHeartbeats 2000000 in
theorem sMed (g off cap a b c n lo hi R : Nat) (s : Int) (d : Array Int) (w : World) (h : Arr w g off d) (hn : d.size = n) (hhi : hi ≤ n) (ha : lo ≤ a) (ha' : a < hi) (hb : lo ≤ b) (hb' : b < hi) (hc : lo ≤ c) (hc' : c < hi) (hsz : n < 1152921504606846976) (hR : IntAt w R s) (hne : g ≠ R) :
    Calls Tryz.prog 100 #[.slice (some ⟨g, off, none⟩) n cap, .int .i64 a, .int .i64 b, .int .i64 c, .pointer (some ⟨R, 0, none⟩)] w fun e w' =>
      ∃ (x : Nat) (t : Int), e = .returned (.int .i64 x) ∧ (lo ≤ x ∧ x < hi) ∧ IntAt w' R t ∧ But1 R w w' := by
  have HA := Lib.hid h
  have HR := Lib.hid hR
  clear h hR
  go_enter Tryz.func100, Tryz.ntmps100
  go_wp2_with fail
  refine (sOrd g off cap a b n lo hi R s d _ HA.out hn hhi ha ha' hb hb' hsz HR.out).mono ?_
  rintro e w1 ⟨x1, y1, t1, rfl, hx1, hy1, hR1, hB1⟩
  have HR1 := Lib.hid hR1
  have HB1 := Lib.hid hB1
  have HA1 := Lib.hid (HA.out.but hB1 hne)
  clear hR1 hB1
  go_wp2_with fail
  refine (sOrd g off cap y1 c n lo hi R t1 d _ HA1.out hn hhi hy1.1 hy1.2 hc hc' hsz HR1.out).mono ?_
  rintro e w2 ⟨x2, y2, t2, rfl, hx2, hy2, hR2, hB2⟩
  have HR2 := Lib.hid hR2
  have HB2 := Lib.hid (HB1.out.trans hB2)
  have HA2 := Lib.hid (HA1.out.but hB2 hne)
  clear hR2 hB2
  go_wp2_with fail
  refine (sOrd g off cap x1 x2 n lo hi R t2 d _ HA2.out hn hhi hx1.1 hx1.2 hx2.1 hx2.2 hsz HR2.out).mono ?_
  rintro e w3 ⟨x3, y3, t3, rfl, hx3, hy3, hR3, hB3⟩
  have HR3 := Lib.hid hR3
  have HB3 := Lib.hid (HB2.out.trans hB3)
  clear hR3 hB3
  go_wp2
  go_ret
  exact ⟨y3, t3, rfl, hy3, HR3.out, HB3.out⟩

set_option maxHeartbeats 2000000 in
theorem sAdj (g off cap a n lo hi R : Nat) (s : Int) (d : Array Int) (w : World) (h : Arr w g off d) (hn : d.size = n) (hhi : hi ≤ n) (ha : lo + 1 ≤ a) (ha' : a + 1 < hi) (hsz : n < 1152921504606846976) (hR : IntAt w R s) (hne : g ≠ R) :
    Calls Tryz.prog 99 #[.slice (some ⟨g, off, none⟩) n cap, .int .i64 a, .pointer (some ⟨R, 0, none⟩)] w fun e w' =>
      ∃ (x : Nat) (t : Int), e = .returned (.int .i64 x) ∧ (lo ≤ x ∧ x < hi) ∧ IntAt w' R t ∧ But1 R w w' := by
  have HA := Lib.hid h
  have HR := Lib.hid hR
  clear h hR
  obtain ⟨a0, rfl⟩ : ∃ a0, a = a0 + 1 := ⟨a - 1, by omega⟩
  have e1 : ((a0 + 1 : Nat) : Int) - 1 = (a0 : Int) := by omega
  have E1 := Lib.hid e1
  clear e1
  go_enter Tryz.func99, Tryz.ntmps99
  go_wp2_with fail
  refine (sMed g off cap a0 (a0 + 1) (a0 + 1 + 1) n lo hi R s d _ HA.out hn hhi (by omega) (by omega) (by omega) (by omega) (by omega) (by omega) hsz HR.out hne).mono ?_
  rintro e w1 ⟨x, t, rfl, hx, hR1, hB1⟩
  have HR1 := Lib.hid hR1
  have HB1 := Lib.hid hB1
  clear hR1 hB1
  go_wp2
  go_ret
  exact ⟨x, t, rfl, hx, HR1.out, HB1.out⟩

theorem intAt_new (w : World) (s : Int) (T : TypeId) : IntAt (w.alloc (.cells #[.int .i64 s] T)) w.heap.size s := by
  refine ⟨cell_new w _ _ _, ?_⟩
  unfold World.frozen?
  simp only [Go.Deep.blk_alloc_new]
  simp
theorem but1_new {w w1 : World} {o : Obj} (h : But1 w.heap.size (w.alloc o) w1) : Below w.heap.size w w1 := (bel1 w o).trans (h.below (Nat.le_refl _) (by simp))

set_option maxHeartbeats 4000000 in
theorem sPiv (g off cap a b n : Nat) (d : Array Int) (w : World) (h : Arr w g off d) (hn : d.size = n) (hab : a + 12 < b) (hb : b ≤ n) (hsz : n < 1152921504606846976) :
    Calls Tryz.prog 82 #[.slice (some ⟨g, off, none⟩) n cap, .int .i64 a, .int .i64 b] w fun e w' =>
      ∃ (x : Nat) (hint : Int), e = .returned (.tuple #[.int .i64 x, .int .i64 hint]) ∧ (a ≤ x ∧ x < b) ∧ Below w.heap.size w w' := by
  have hne : g ≠ w.heap.size := by have := h.lt; omega
  have HA := Lib.hid (h.below (bel1 w (.cells #[.int .i64 0] 3)) h.lt)
  clear h
  have hR := intAt_new w 0 3
  have HR := Lib.hid hR
  clear hR
  obtain ⟨i, j, k, e3, e4, e5, hi, hj, hk, hb5⟩ : ∃ i j k : Nat, (a : Int) + ((b : Int) - a) / 4 = (i : Int) ∧ (a : Int) + ((b : Int) - a) / 4 * 2 = (j : Int) ∧ (a : Int) + ((b : Int) - a) / 4 * 3 = (k : Int) ∧ (a ≤ i ∧ i < b) ∧ (a ≤ j ∧ j < b) ∧ (a ≤ k ∧ k < b) ∧
      (50 ≤ b - a → (a + 1 ≤ i ∧ i + 1 < b) ∧ (a + 1 ≤ j ∧ j + 1 < b) ∧ (a + 1 ≤ k ∧ k + 1 < b)) :=
    ⟨a + (b - a) / 4, a + (b - a) / 4 * 2, a + (b - a) / 4 * 3, by omega, by omega, by omega, by omega, by omega, by omega, by omega⟩
  have E3 := Lib.hid e3
  have E4 := Lib.hid e4
  have E5 := Lib.hid e5
  clear e3 e4 e5
  have FIN : ∀ (x : Nat) (hint : Int) (w' : World), (a ≤ x ∧ x < b) → But1 w.heap.size (w.alloc (.cells #[.int .i64 0] 3)) w' → ∃ (x' : Nat) (hint' : Int), Ending.returned (Value.tuple #[.int .i64 x, .int .i64 hint]) = .returned (.tuple #[.int .i64 x', .int .i64 hint']) ∧ (a ≤ x' ∧ x' < b) ∧ Below w.heap.size w w' :=
    fun x hint w' h1 h2 => ⟨x, hint, rfl, h1, but1_new h2⟩
  have FIN := Lib.hid FIN
  go_enter Tryz.func82, Tryz.ntmps82
  by_cases h50 : 50 ≤ b - a
  · obtain ⟨hi5, hj5, hk5⟩ := hb5 h50
    clear hb5
    go_wp2_with fail
    rw [E3.out, E4.out, E5.out]
    refine (sAdj g off cap i n a b w.heap.size 0 d _ HA.out hn hb hi5.1 hi5.2 hsz HR.out hne).mono ?_
    rintro e w1 ⟨x1, t1, rfl, hx1, hR1, hB1⟩
    have HR1 := Lib.hid hR1
    have HB1 := Lib.hid (id hB1)
    have HA1 := Lib.hid (HA.out.but hB1 hne)
    clear hR1 hB1
    go_wp2_with fail
    refine (sAdj g off cap j n a b w.heap.size t1 d _ HA1.out hn hb hj5.1 hj5.2 hsz HR1.out hne).mono ?_
    rintro e w2 ⟨x2, t2, rfl, hx2, hR2, hB2⟩
    have HR2 := Lib.hid hR2
    have HB2 := Lib.hid (HB1.out.trans hB2)
    have HA2 := Lib.hid (HA1.out.but hB2 hne)
    clear hR2 hB2
    go_wp2_with fail
    refine (sAdj g off cap k n a b w.heap.size t2 d _ HA2.out hn hb hk5.1 hk5.2 hsz HR2.out hne).mono ?_
    rintro e w3 ⟨x3, t3, rfl, hx3, hR3, hB3⟩
    have HR3 := Lib.hid hR3
    have HB3 := Lib.hid (HB2.out.trans hB3)
    have HA3 := Lib.hid (HA2.out.but hB3 hne)
    clear hR3 hB3
    go_wp2_with fail
    refine (sMed g off cap x1 x2 x3 n a b w.heap.size t3 d _ HA3.out hn hb hx1.1 hx1.2 hx2.1 hx2.2 hx3.1 hx3.2 hsz HR3.out hne).mono ?_
    rintro e w4 ⟨x4, t4, rfl, hx4, hR4, hB4⟩
    have HB4 := Lib.hid (HB3.out.trans hB4)
    obtain ⟨c4, f4⟩ := hR4
    clear hB4
    go_wp2
    all_goals (go_ret2; exact FIN.out _ _ _ hx4 HB4.out)
  · clear hb5
    go_wp2_with fail
    rw [E3.out, E4.out, E5.out]
    refine (sMed g off cap i j k n a b w.heap.size 0 d _ HA.out hn hb hi.1 hi.2 hj.1 hj.2 hk.1 hk.2 hsz HR.out hne).mono ?_
    rintro e w4 ⟨x4, t4, rfl, hx4, hR4, hB4⟩
    have HB4 := Lib.hid hB4
    obtain ⟨c4, f4⟩ := hR4
    clear hB4
    go_wp2
    all_goals (go_ret2; exact FIN.out _ _ _ hx4 HB4.out)
end Go.Proofs.YtllpmepmgnnoaaaGreat
