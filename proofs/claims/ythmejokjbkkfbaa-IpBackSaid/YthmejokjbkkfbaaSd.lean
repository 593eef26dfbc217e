/- Contracts of package sum: a sum put into its place. -/
import Derived.Test.YthmejokjbkkfbaaSc
import Derived.Test.YthmejokjbkkfbaaOb
import Derived.Deep.RegionWith
import Derived.Deep.RegionHeld3
namespace Go.Proofs.Ythmejokjbkkfbaa
set_option linter.unusedVariables false
open Go.RowKit

def PutOk (k : Nat) (n : Nat) : Prop := k % 2 = 0 ∧ k + 2 ≤ n
/-- No place for a sum. -/
theorem sPut_no (a : Option Addr) (n cap : Nat) (at' : Int) (w : World) (hn : n ≤ 1000000) (h : at' < 0 ∨ (n : Int) - 2 < at' ∨ at' % 2 = 1) (h63 : -9223372036854775808 ≤ at' ∧ at' ≤ 9223372036854775807) :
    Calls Try.prog 39 #[.slice a n cap, .int .i64 at'] w fun e w' => e = .returned (.tuple #[.slice none 0 0, .int .i64 1]) ∧ w = w' := by
  by_cases h1 : at' < 0
  · clear h
    go_enter Try.func39, Try.ntmps39
    go_wp2
    go_ret2
    exact ⟨rfl, rfl⟩
  · by_cases h2 : (n : Int) - 2 < at'
    · clear h
      go_enter Try.func39, Try.ntmps39
      go_wp2
      go_ret2
      exact ⟨rfl, rfl⟩
    · have h3 : at' % 2 = 1 := by omega
      have h4 : (at' % 2 != 0) = true := by rw [h3]; rfl
      have h0 : 0 ≤ at' := by omega
      have H3 := Lib.hid h3
      clear h h1 h3
      go_enter Try.func39, Try.ntmps39
      go_wp2
      go_ret2
      exact ⟨rfl, rfl⟩

theorem sput_ob (g n cap k : Nat) (v : Int) (xs : List Int) (w : World) (hob : Ob w g xs) (hk : k + 2 ≤ xs.length) (h0 : 0 ≤ v) (h1 : v ≤ 65535) (hn : 2 ≤ n) :
    Calls Try.prog 42 #[.slice (some ⟨g, k, none⟩) n cap, .int .u16 v] w fun e w' => e = .returned (.tuple #[]) ∧ Ob w' g (putw xs k v) ∧ Below g w w' := by
  refine (sput g k n cap v _ _ w h0 h1 hn (hob.cell (k := k) (by omega)) (hob.cell (k := k + 1) (by omega)) (hob.frozen _) (hob.frozen _)).mono ?_
  rintro e w' ⟨rfl, rfl⟩
  exact ⟨rfl, (hob.set k _ (by omega)).set (k + 1) _ (by rw [List.length_set]; omega), ((Below.refl g w).setCell (p := ⟨g, k, none⟩) (Nat.le_refl _) _).setCell (p := ⟨g, k + 1, none⟩) (Nat.le_refl _) _⟩

theorem ob_after {w2 w3 : World} {g : Nat} {xs : List Int} (h : Ob w2 g xs) (hb : Below w2.drew.heap.size w2.drew w3) : Ob w3 g xs := Ob.below (w := w2.drew) h hb h.lt

set_option maxHeartbeats 2000000 in
theorem sPut_ok (a : Option Addr) (n cap k : Nat) (xs : List Int) (w : World) (hn : n ≤ 1000000) (hx : xs.length = n) (hb : Bs w a xs) (he : k % 2 = 0) (hk : k + 2 ≤ n) :
    Calls Try.prog 39 #[.slice a n cap, .int .i64 k] w fun e w' => ∃ g, e = .returned (.tuple #[.slice (some ⟨g, 0, none⟩) n n, .int .i64 0]) ∧ Ob w' g (putS xs k) ∧ w.heap.size ≤ g ∧ Below w.heap.size w w' := by
  have h4 : ((k : Int) % 2 != 0) = false := by rw [bne_eq_false_iff_eq]; omega
  have hmk := run_make_row' (P := Try.prog) 27 5 (.int .u8 0) 1 Try.underlying27 info8 rfl .i64 .i64 n (by omega) (by omega)
  have HE := Lib.hid he
  have HX := Lib.hid hx
  have HB := Lib.hid hb
  have HM := Lib.hid (Ob.made w n).heap
  have HN : Hid ((vb xs).length = Nat.min n n) := Lib.hid (by rw [vb_len, hx]; exact (Nat.min_self n).symm)
  have HS := Lib.hid (fun hp => vb_src (bs_below hb ((Below.refl _ w).alloc (Nat.le_refl _) (.cells (madeCells #[.int .u8 0] n) 5))) hp)
  have HF : Hid (0 + (vb xs).length ≤ (vb (List.replicate n 0)).length) := Lib.hid (by rw [vb_len, vb_len, List.length_replicate]; omega)
  have HP : Hid (splice (vb (List.replicate n 0)) 0 (vb xs) = vb xs) := Lib.hid (splice_vb _ _ (by rw [List.length_replicate, hx]))
  clear he hx hb
  go_enter Try.func39, Try.ntmps39
  go_wp2_with (with_reducible refine wpList_copy_splice rfl (.tmp 24) (.tmp 25) 27 27 rfl 5 Try.underlying27 infos8 (some ⟨w.heap.size, 0, none⟩) a n n n cap rfl rfl w.heap.size 0 (vb (List.replicate n 0)) 5 HM.out (vb xs) HN.out (fun hp => ⟨rfl, HS.out hp⟩) HF.out (vb_one xs) w.heap.size w ((Below.refl _ w).alloc (Nat.le_refl _) _) (Nat.le_refl _) ?_; intro w1 hg1 hb1)
  have ob : Ob w1 w.heap.size xs := Ob.of_heap (by rw [← HP.out]; exact hg1)
  have OB := Lib.hid ob
  clear hg1 ob
  go_wp2_with fail
  refine (sput_ob w.heap.size (n - k) (n - k) k 0 xs w1 OB.out (by rw [HX.out]; exact hk) (by omega) (by omega) (by omega)).mono ?_
  rintro e w2 ⟨rfl, ob2, hb2⟩
  have OB2 : Hid (Ob w2 w.heap.size (put0 xs k)) := Lib.hid ob2
  have HB2 := Lib.hid (hb1.trans hb2)
  clear hb1 hb2 ob2
  have HL : Hid ((put0 xs k).length = n) := Lib.hid ((put0_len xs k).trans HX.out)
  have HI := Lib.hid (isB_put0 HB.out.2 k)
  have HO := Lib.hid (ofs_bd HI.out)
  go_wp2_with fail
  go_region_with (first
    | (go_at_call 40; refine (sOf _ n n (put0 xs k) _ HL.out hn (Ob.bs (by first | exact OB2.out | exact OB2.out.drewN _) HI.out)).mono ?_; rintro e w3 ⟨rfl, hb3⟩)
    | (go_at_call 42; refine (sput_ob w.heap.size (n - k) (n - k) k (ofs (put0 xs k)) (put0 xs k) _ (ob_after OB2.out hb3) (by rw [HL.out]; exact hk) HO.out.1 HO.out.2 (by omega)).mono ?_; rintro e w4 ⟨rfl, ob4, hb4⟩))
  all_goals
    go_wp2
    go_ret2
    exact ⟨w.heap.size, rfl, ob4, Nat.le_refl _, (HB2.out.drew.trans (hb3.mono HB2.out.size)).trans hb4⟩
/-- Put, whatever the place. -/
theorem sPut (a : Option Addr) (n cap : Nat) (at' : Int) (xs : List Int) (w : World) (hn : n ≤ 1000000) (hx : xs.length = n) (hb : Bs w a xs) (h63 : -9223372036854775808 ≤ at' ∧ at' ≤ 9223372036854775807) :
    (∃ k : Nat, at' = k ∧ PutOk k n ∧ Calls Try.prog 39 #[.slice a n cap, .int .i64 at'] w fun e w' => ∃ g, e = .returned (.tuple #[.slice (some ⟨g, 0, none⟩) n n, .int .i64 0]) ∧ Ob w' g (putS xs k) ∧ w.heap.size ≤ g ∧ Below w.heap.size w w') ∨
    ((at' < 0 ∨ (n : Int) - 2 < at' ∨ at' % 2 = 1) ∧ Calls Try.prog 39 #[.slice a n cap, .int .i64 at'] w fun e w' => e = .returned (.tuple #[.slice none 0 0, .int .i64 1]) ∧ w = w') := by
  by_cases h : at' < 0 ∨ (n : Int) - 2 < at' ∨ at' % 2 = 1
  · exact .inr ⟨h, sPut_no a n cap at' w hn h h63⟩
  · obtain ⟨k, rfl⟩ := Int.eq_ofNat_of_zero_le (a := at') (by omega)
    exact .inl ⟨k, rfl, ⟨by omega, by omega⟩, sPut_ok a n cap k xs w hn hx hb (by omega) (by omega)⟩
end Go.Proofs.Ythmejokjbkkfbaa
