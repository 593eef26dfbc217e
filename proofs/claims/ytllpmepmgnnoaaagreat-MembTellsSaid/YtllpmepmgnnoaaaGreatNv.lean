/- The library's sort: turning a range round, the choice of a pivot: what is asked of them alone. -/
import Derived.Test.YtllpmepmgnnoaaaGreatNu
namespace Go.Proofs.YtllpmepmgnnoaaaGreat
set_option linter.unusedVariables false
open Go.RowKit
open Go.Sort (PermIn)

theorem perm_swp {a b i j : Nat} {d dk : Array Int} (h : PermIn a b d dk) (hi : a ≤ i) (hi' : i < b) (hj : a ≤ j) (hj' : j < b) (hb : b ≤ dk.size) : PermIn a b d (Go.Sort.swp dk i j) :=
  Go.Sort.permIn_trans _ _ _ _ _ h (Go.Sort.swp_permIn dk a b i j hi hi' hj hj' hb)

set_option maxHeartbeats 2000000 in
theorem sRev (g off cap a b n : Nat) (d : Array Int) (w : World) (h : Arr w g off d) (hn : d.size = n) (hab : a ≤ b) (hb : b ≤ n) (hsz : n < 1152921504606846976) :
    Calls Tryz.prog 83 #[.slice (some ⟨g, off, none⟩) n cap, .int .i64 a, .int .i64 b] w fun e w' =>
      e = .returned (.tuple #[]) ∧ ∃ d', PermIn a b d d' ∧ Arr w' g off d' ∧ But1 g w w' := by
  have HA := Lib.hid h
  clear h
  go_enter Tryz.func83, Tryz.ntmps83
  go_wp2
  go_loopw [6, 7] (fun v6 v7 wr => ∃ (i : Nat) (jz : Int) (dk : Array Int), v6 = .int .i64 i ∧ v7 = .int .i64 jz ∧ a ≤ i ∧ i ≤ b ∧ jz < b ∧ (i : Int) ≤ jz + 3 ∧ dk.size = n ∧ Arr wr g off dk ∧ But1 g w wr ∧ PermIn a b d dk)
    (fun v6 v7 _ => (intOf v7 - intOf v6).toNat)
  case atStart => exact ⟨a, (b : Int) - 1, d, rfl, rfl, by omega, by omega, by omega, by omega, hn, HA.out, But1.refl _ _, Go.Sort.permIn_refl _ _ _⟩
  case round =>
    obtain ⟨i, jz, dk, rfl, rfl, hai, hib, hj, hij, hsk, hA, hB, hP⟩ := hrel
    have HB := Lib.hid hB
    have HP := Lib.hid hP
    have HAK := Lib.hid hA
    clear hB hP
    by_cases hlt : (i : Int) < jz
    · obtain ⟨j, rfl⟩ : ∃ j : Nat, jz = j := ⟨jz.toNat, by omega⟩
      obtain ⟨G, hG, hcw, hfw⟩ := hA.fam hsk
      have HG := Lib.hid hG
      clear hA hG
      have hij' : i < j := by omega
      go_wp2_with fail
      go_region
      go_wp2
      go_roundw
      case rel =>
        refine ⟨i + 1, (j : Int) - 1, Go.Sort.swp dk i j, by go_num, rfl, by omega, by omega, by omega, by omega, by rw [Go.Sort.size_swp]; exact hsk, ?_, (HB.out.drewN 1).swp _ _ _ _, perm_swp HP.out hai (by omega) (by omega) (by omega) (by omega)⟩
        rw [HG.out, HG.out]
        exact (HAK.out.drewN 1).swp _ _ (by omega) (by omega)
      case measure => simp [intOf]; omega
    · clear hA
      go_wp2
      go_end0
      exact ⟨rfl, dk, HP.out, HAK.out, HB.out⟩

/-- A variable of its own that holds a number. -/
def IntAt (w : World) (R : Nat) (s : Int) : Prop := w.cell? ⟨R, 0, none⟩ = some (.int .i64 s) ∧ w.frozen? ⟨R, 0, none⟩ = false
theorem IntAt.set {w : World} {R : Nat} {s : Int} (h : IntAt w R s) (q : Nat) (t : Int) : IntAt ((w.drewN q).setCell ⟨R, 0, none⟩ (.int .i64 t)) R t :=
  ⟨World.cell?_setCell_same' _ _ _ (by rw [show (w.drewN q).cell? ⟨R, 0, none⟩ = w.cell? ⟨R, 0, none⟩ from rfl, h.1]; rfl), by rw [World.frozen?_setCell]; exact h.2⟩
theorem Arr.but {w w' : World} {g off R : Nat} {d : Array Int} (h : Arr w g off d) (hb : But1 R w w') (hne : g ≠ R) : Arr w' g off d := h.of_block (hb.block g h.lt hne)

set_option maxHeartbeats 2000000 in
theorem sOrd (g off cap a b n lo hi R : Nat) (s : Int) (d : Array Int) (w : World) (h : Arr w g off d) (hn : d.size = n) (hhi : hi ≤ n) (ha : lo ≤ a) (ha' : a < hi) (hb : lo ≤ b) (hb' : b < hi) (hsz : n < 1152921504606846976) (hR : IntAt w R s) :
    Calls Tryz.prog 121 #[.slice (some ⟨g, off, none⟩) n cap, .int .i64 a, .int .i64 b, .pointer (some ⟨R, 0, none⟩)] w fun e w' =>
      ∃ (x y : Nat) (t : Int), e = .returned (.tuple #[.int .i64 x, .int .i64 y]) ∧ (lo ≤ x ∧ x < hi) ∧ (lo ≤ y ∧ y < hi) ∧ IntAt w' R t ∧ But1 R w w' := by
  obtain ⟨G, hG, hcw, hfw⟩ := h.fam hn
  have HRI := Lib.hid hR
  obtain ⟨r1, r2⟩ := hR
  clear h
  go_enter Tryz.func121, Tryz.ntmps121
  go_wp2
  go_quiet (first | (go_at_call 85; refine Calls.quiet_of_same (sLess _ _ _)))
  have r3 : (w.drewN nq).cell? ⟨R, 0, none⟩ = some (.int .i64 s) := r1
  have r4 : (w.drewN nq).frozen? ⟨R, 0, none⟩ = false := r2
  clear r1 r2
  go_wp2
  · go_ret2
    exact ⟨b, a, _, rfl, ⟨hb, hb'⟩, ⟨ha, ha'⟩, HRI.out.set _ _, ((But1.refl _ _).drewN _).trans (But1.set _ _ _ _)⟩
  · go_ret2
    exact ⟨a, b, s, rfl, ⟨ha, ha'⟩, ⟨hb, hb'⟩, HRI.out, (But1.refl _ _).drewN _⟩
end Go.Proofs.YtllpmepmgnnoaaaGreat
