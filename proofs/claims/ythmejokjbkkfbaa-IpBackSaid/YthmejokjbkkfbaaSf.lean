/- Contracts of the document's own answers for sums (stolonref02): a sum put into its place. -/
import Derived.Test.YthmejokjbkkfbaaSe
import Derived.Test.YthmejokjbkkfbaaOb
import Derived.Maps.AppendAt
import Derived.Lib.EndianBits
import Derived.Laws.OwnMore
namespace Go.Proofs.Ythmejokjbkkfbaa
set_option linter.unusedVariables false
open Go.RowKit

theorem rPut_no (a : Option Addr) (n cap : Nat) (at' : Int) (w : World) (hn : n ≤ 1000000) (h : at' < 0 ∨ (n : Int) - 2 < at' ∨ at' % 2 = 1) (h63 : -9223372036854775808 ≤ at' ∧ at' ≤ 9223372036854775807) :
    Calls Try.prog 22 #[.slice a n cap, .int .i64 at'] w fun e w' => e = .returned (.tuple #[.slice none 0 0, .int .i64 1]) ∧ w = w' := by
  by_cases h1 : at' < 0
  · clear h
    go_enter Try.func22, Try.ntmps22
    go_wp2
    go_ret2
    exact ⟨rfl, rfl⟩
  · by_cases h3 : at' % 2 = 1
    · have h4 : (at' % 2 == 1) = true := by rw [h3]; rfl
      have h0 : 0 ≤ at' := by omega
      have H3 := Lib.hid h3
      clear h h1 h3
      go_enter Try.func22, Try.ntmps22
      go_wp2
      go_ret2
      exact ⟨rfl, rfl⟩
    · have h4 : (at' % 2 == 1) = false := by rw [beq_eq_false_iff_ne]; exact h3
      have h2 : (n : Int) - 2 < at' := by omega
      have h0 : 0 ≤ at' := by omega
      clear h h1 h3
      go_enter Try.func22, Try.ntmps22
      go_wp2
      go_ret2
      exact ⟨rfl, rfl⟩

theorem own_next {w : World} {B k : Nat} {P : List Int} {v : Value} {x : Int} (hv : vb (P.take k) ++ [.int .u8 (P.getD k 0)] = vb (P.take (k + 1))) (hx : P.getD k 0 = x) (h : w.ownsRow B 5 1 v (k + 1) (vb (P.take k) ++ [.int .u8 x])) :
    w.ownsRow B 5 1 v (k + 1) (vb (P.take (k + 1))) := by
  rw [← hv, hx]; exact h
theorem div256 {s : Int} (h0 : 0 ≤ s) (h1 : s ≤ 65535) : IntKind.u16.wrap (s.tdiv 256) % 256 = s / 256 := by
  rw [Int.tdiv_eq_ediv_of_nonneg h0, wraps_u16 _ (by omega) (by omega)]; omega
set_option maxHeartbeats 2000000 in
theorem rPutO_ok (a : Option Addr) (n cap q : Nat) (xs : List Int) (w : World) (hn : n ≤ 1000000) (hx : xs.length = n) (hb : Bs w a xs) (he : q % 2 = 0) (hk : q + 2 ≤ n) :
    Calls Try.prog 22 #[.slice a n cap, .int .i64 q] w fun e w' => ∃ g cap', e = .returned (.tuple #[.slice (some ⟨g, 0, none⟩) n cap', .int .i64 0]) ∧ Og w' g (putS xs q) ∧ w.heap.size ≤ g ∧ Below w.heap.size w w' ∧ Ow w' w.heap.size (some ⟨g, 0, none⟩) n cap' (putS xs q) := by
  have h4 : ((q : Int) % 2 == 1) = false := by rw [beq_eq_false_iff_ne]; omega
  obtain ⟨b, off, ha, hc⟩ : ∃ b off, a = some ⟨b, off, none⟩ ∧ ∀ k, k < xs.length → w.cell? ⟨b, off + k, none⟩ = some (.int .u8 (xs.getD k 0)) := by
    rcases hb.1 with e | e
    · rw [e] at hx; simp at hx; omega
    · exact e
  subst ha
  have hbl : b < w.heap.size := cell_lt (hc 0 (by omega))
  obtain ⟨P, hP⟩ : ∃ P, P = put0 xs q := ⟨_, rfl⟩
  have HI : Hid (IsB P) := Lib.hid (by rw [hP]; exact isB_put0 hb.2 q)
  have HL : Hid (P.length = n) := Lib.hid (by rw [hP, put0_len, hx])
  have HZ : Hid (P.getD q 0 = 0 ∧ P.getD (q + 1) 0 = 0 ∧ ∀ k, k ≠ q → k ≠ q + 1 → P.getD k 0 = xs.getD k 0) := Lib.hid (by
    rw [hP]
    exact ⟨putw_getD_0 0 (by omega), putw_getD_1 0 (by omega), fun k h1 h2 => putw_getD_ne 0 h1 h2⟩)
  have HS : Hid (putS xs q = putw P q (ofs P)) := Lib.hid (by rw [hP]; rfl)
  have HC := Lib.hid hc
  have HX := Lib.hid hx
  obtain ⟨i0, hi, hz0, hz1, hz2⟩ := info_parts info8
  clear he hx hb hc hP
  go_enter Try.func22, Try.ntmps22
  go_wp2_with fail
  go_loopw [6, 7] (fun v i wr => ∃ k : Nat, k ≤ n ∧ i = .int .i64 k ∧ wr.ownsRow w.heap.size 5 1 v k (vb (P.take k)) ∧ Below w.heap.size w wr) (fun _ i _ => n - (intOf i).toNat)
  case atStart => exact ⟨0, by omega, rfl, ⟨rfl, .inl ⟨rfl, rfl⟩⟩, Below.refl _ _⟩
  case round =>
    obtain ⟨k, hkn, rfl, hown, hbr⟩ := hrel
    by_cases hlt : k < n
    · have hsz := hbr.size
      have HV := Lib.hid (vb_snoc P k (by rw [HL.out]; exact hlt))
      by_cases h1 : k = q
      · have e1 : ((k : Int) == (q : Int)) = true := by simp [h1]
        have HE1 : Hid (P.getD k 0 = 0) := Lib.hid (by rw [h1]; exact HZ.out.1)
        clear h1
        go_wp2_with (at_builtin; refine wpList_append_own _ rfl (.tmp 38) (.tmp 39) 27 rfl w.heap.size 5 i0 (.int .u8 0) 1 1 Try.underlying27 hi hz0 hz1 hz2 rfl (by decide) _ _ _ rfl (hown.alloc _) ⟨wr.heap.size, 0, none⟩ 1 1 [.int .u8 0] rfl rfl (cell_one_new _ _ _) (by simp [Value.oneCell']) (by unfold maxLen; omega) (by omega) (by simp; omega) ?_; intro v' w1 hown' hgrow _)
        have hB1 := app_below hbr hsz hown hgrow
        have HG := Lib.hid hgrow
        clear hgrow
        go_wp2_with fail
        go_roundw
        case rel => exact ⟨k + 1, by omega, by go_num, own_next HV.out HE1.out hown', hB1⟩
        case measure => simp [intOf]; omega
      · by_cases h2 : k = q + 1
        · have e1 : ((k : Int) == (q : Int)) = false := by rw [beq_eq_false_iff_ne]; omega
          have e2 : ((k : Int) == (q : Int) + 1) = true := by rw [beq_iff_eq]; omega
          have HE1 : Hid (P.getD k 0 = 0) := Lib.hid (by rw [h2]; exact HZ.out.2.1)
          clear h1 h2
          go_wp2_with (at_builtin; refine wpList_append_own _ rfl (.tmp 38) (.tmp 39) 27 rfl w.heap.size 5 i0 (.int .u8 0) 1 1 Try.underlying27 hi hz0 hz1 hz2 rfl (by decide) _ _ _ rfl (hown.alloc _) ⟨wr.heap.size, 0, none⟩ 1 1 [.int .u8 0] rfl rfl (cell_one_new _ _ _) (by simp [Value.oneCell']) (by unfold maxLen; omega) (by omega) (by simp; omega) ?_; intro v' w1 hown' hgrow _)
          have hB1 := app_below hbr hsz hown hgrow
          have HG := Lib.hid hgrow
          clear hgrow
          go_wp2_with fail
          go_roundw
          case rel => exact ⟨k + 1, by omega, by go_num, own_next HV.out HE1.out hown', hB1⟩
          case measure => simp [intOf]; omega
        · have e1 : ((k : Int) == (q : Int)) = false := by rw [beq_eq_false_iff_ne]; omega
          have e2 : ((k : Int) == (q : Int) + 1) = false := by rw [beq_eq_false_iff_ne]; omega
          have HE1 : Hid (P.getD k 0 = xs.getD k 0) := Lib.hid (HZ.out.2.2 k h1 h2)
          have c1 : wr.cell? ⟨b, off + k, none⟩ = some (.int .u8 (xs.getD k 0)) := (hbr.cell (p := ⟨b, off + k, none⟩) hbl).trans (HC.out k (by rw [HX.out]; exact hlt))
          have i1 : (k : Int) < (n : Int) := by omega
          generalize xs.getD k 0 = x at *
          clear h1 h2
          go_wp2_with (at_builtin; refine wpList_append_own _ rfl (.tmp 41) (.tmp 46) 27 rfl w.heap.size 5 i0 (.int .u8 0) 1 1 Try.underlying27 hi hz0 hz1 hz2 rfl (by decide) _ _ _ rfl (hown.alloc _) ⟨wr.heap.size, 0, none⟩ 1 1 [.int .u8 x] rfl rfl (cell_one_new _ _ _) (by simp [Value.oneCell']) (by unfold maxLen; omega) (by omega) (by simp; omega) ?_; intro v' w1 hown' hgrow _)
          have hB1 := app_below hbr hsz hown hgrow
          have HG := Lib.hid hgrow
          clear hgrow
          go_wp2_with fail
          go_roundw
          case rel => exact ⟨k + 1, by omega, by go_num, own_next HV.out HE1.out hown', hB1⟩
          case measure => simp [intOf]; omega
    · obtain rfl : k = n := by omega
      have hP : P.take k = P := List.take_of_length_le (by rw [HL.out]; exact Nat.le_refl _)
      rw [hP] at hown
      obtain ⟨g, cap', rfl, hgB, hog⟩ := Og.owned hown (by omega)
      have HOG := Lib.hid hog
      have HOWN := Lib.hid hown
      clear hP hown hog
      have c1 := HOG.out.cell (k := q) (by rw [HL.out]; omega)
      have c2 := HOG.out.cell (k := q + 1) (by rw [HL.out]; omega)
      have f1 := HOG.out.frozen q
      have f2 := HOG.out.frozen (q + 1)
      have e1 : ((q : Int) + 1).toNat = q + 1 := by omega
      obtain ⟨s, hs⟩ : ∃ s, s = ofs P := ⟨_, rfl⟩
      have bs := ofs_bd HI.out
      rw [← hs] at bs
      have HSS := Lib.hid hs
      clear hs
      go_wp2_with (go_at_call 26; refine (rOf2 _ k cap' P _ HL.out hn (HOG.out.bs HI.out)).mono ?_; rintro e w' ⟨rfl, rfl⟩; rw [← HSS.out])
      go_ret2
      refine ⟨g, cap', rfl, ?_, hgB, (hbr.setCell (p := ⟨g, q, none⟩) hgB _).setCell (p := ⟨g, q + 1, none⟩) hgB _, ?_⟩
      · rw [HS.out, ← HSS.out, div256 bs.1 bs.2]
        exact (HOG.out.set q (s / 256) (by rw [HL.out]; omega)).set (q + 1) (s % 256) (by rw [List.length_set, HL.out]; omega)
      · refine ⟨?_, by rw [putS_len]; exact HX.out⟩
        rw [HS.out, ← HSS.out, div256 bs.1 bs.2]
        have h1 := ((HOWN.out.stored q (.int .u8 (s / 256))).1.stored (q + 1) (.int .u8 (s % 256))).1
        unfold putw
        rw [vb, List.map_set, List.map_set]
        exact h1
theorem rPut_ok (a : Option Addr) (n cap q : Nat) (xs : List Int) (w : World) (hn : n ≤ 1000000) (hx : xs.length = n) (hb : Bs w a xs) (he : q % 2 = 0) (hk : q + 2 ≤ n) :
    Calls Try.prog 22 #[.slice a n cap, .int .i64 q] w fun e w' => ∃ g cap', e = .returned (.tuple #[.slice (some ⟨g, 0, none⟩) n cap', .int .i64 0]) ∧ Og w' g (putS xs q) ∧ w.heap.size ≤ g ∧ Below w.heap.size w w' :=
  (rPutO_ok a n cap q xs w hn hx hb he hk).mono fun e w' ⟨g, cap', h1, h2, h3, h4, _⟩ => ⟨g, cap', h1, h2, h3, h4⟩
/-- Put, as the document has it. -/
theorem rPut (a : Option Addr) (n cap : Nat) (at' : Int) (w : World) (xs : List Int) (hn : n ≤ 1000000) (hx : xs.length = n) (hb : Bs w a xs) (k : Nat) (e : at' = k) (he : k % 2 = 0) (hk : k + 2 ≤ n) :
    Calls Try.prog 22 #[.slice a n cap, .int .i64 at'] w fun e w' => ∃ g cap', e = .returned (.tuple #[.slice (some ⟨g, 0, none⟩) n cap', .int .i64 0]) ∧ Og w' g (putS xs k) ∧ w.heap.size ≤ g ∧ Below w.heap.size w w' := by
  subst e; exact rPut_ok a n cap k xs w hn hx hb he hk
end Go.Proofs.Ythmejokjbkkfbaa
