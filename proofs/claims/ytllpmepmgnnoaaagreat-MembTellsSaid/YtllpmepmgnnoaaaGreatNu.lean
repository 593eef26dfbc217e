/- The library's heap sort: all of it. -/
import Derived.Test.YtllpmepmgnnoaaaGreatNt
namespace Go.Proofs.YtllpmepmgnnoaaaGreat
set_option linter.unusedVariables false
open Go.RowKit
open Go.Sort (siftDown heapBuild heapPop)

theorem sift_size {hi first root : Nat} {d : Array Int} (h : first + hi ≤ d.size) : (siftDown ltI hi first root d).size = d.size := by
  induction hm : hi - root using Nat.strongRecOn generalizing root d with
  | _ m ih =>
    by_cases h1 : hi ≤ 2 * root + 1
    · rw [sd_stop h1]
    · obtain ⟨c, hc⟩ : ∃ c, Kid d hi first root c := by
        by_cases h2 : 2 * root + 2 < hi ∧ ltI d[first + (2 * root + 1)]! d[first + (2 * root + 1) + 1]! = true
        · exact ⟨_, .inl ⟨rfl, h2.1, h2.2⟩⟩
        · refine ⟨_, .inr ⟨rfl, ?_⟩⟩
          by_cases h3 : 2 * root + 2 < hi
          · exact .inr (by cases e : ltI d[first + (2 * root + 1)]! d[first + (2 * root + 1) + 1]!; rfl; exact absurd ⟨h3, e⟩ h2)
          · exact .inl (by omega)
      have hk := kid_lt hc (by omega)
      cases hl : ltI d[first + root]! d[first + c]!
      · rw [sd_leaf (by omega) hc hl]
      · rw [sd_go (by omega) hc hl, ih (hi - c) (by omega) (by rw [Go.Sort.size_swp]; exact h) rfl, Go.Sort.size_swp]

theorem half (hi : Nat) : ((hi : Int) - 1).tdiv 2 = (((hi - 1) / 2 : Nat) : Int) := by
  cases hi with
  | zero => rfl
  | succ h =>
    rw [show ((h + 1 : Nat) : Int) - 1 = (h : Int) by omega, Nat.add_sub_cancel]
    rfl
set_option maxHeartbeats 2000000 in
theorem sHeap (g off cap a b n : Nat) (d : Array Int) (w : World) (h : Arr w g off d) (hn : d.size = n) (hab : a ≤ b) (hb : b ≤ n) (hsz : n < 1152921504606846976) :
    Calls Tryz.prog 80 #[.slice (some ⟨g, off, none⟩) n cap, .int .i64 a, .int .i64 b] w fun e w' =>
      e = .returned (.tuple #[]) ∧ Arr w' g off (Go.Sort.heapSort ltI d a b) ∧ But1 g w w' := by
  obtain ⟨hi, hhi⟩ : ∃ hi, b - a = hi := ⟨_, rfl⟩
  have HA := Lib.hid h
  have e0 : (b : Int) - (a : Int) = (hi : Int) := by omega
  have E0 := Lib.hid e0
  have HHI := Lib.hid hhi
  have q0 : a + hi ≤ n := by omega
  clear h e0 hhi
  go_enter Tryz.func80, Tryz.ntmps80
  go_wp2
  rw [E0.out]
  go_loopw [9] (fun v wr => ∃ (k : Nat) (dk : Array Int), v = .int .i64 ((k : Int) - 1) ∧ k ≤ hi + 1 ∧ (k = 0 ∨ k ≤ hi ∨ hi = 0) ∧ dk.size = n ∧ Arr wr g off dk ∧ But1 g w wr ∧
      heapBuild ltI hi a k dk = heapBuild ltI hi a ((hi - 1) / 2 + 1) d) (fun v _ => (intOf v + 1).toNat)
  case atStart =>
    refine ⟨(hi - 1) / 2 + 1, d, ?_, by omega, by omega, hn, HA.out, But1.refl _ _, rfl⟩
    rw [half]
    congr 1
    omega
  case round =>
    obtain ⟨k, dk, rfl, hk, hk2, hsk, hA, hB, hO⟩ := hrel
    have HO := Lib.hid hO
    have HAK := Lib.hid hA
    have HBK := Lib.hid hB
    clear hO hA hB
    cases k with
    | zero =>
      go_wp2
      go_loopw [10] (fun v wr => ∃ (k : Nat) (dk : Array Int), v = .int .i64 ((k : Int) - 1) ∧ k ≤ hi ∧ dk.size = n ∧ Arr wr g off dk ∧ But1 g w wr ∧
          heapPop ltI a k dk = Go.Sort.heapSort ltI d a b) (fun v _ => (intOf v + 1).toNat)
      case atStart =>
        refine ⟨hi, dk, rfl, Nat.le_refl _, hsk, HAK.out, HBK.out, ?_⟩
        unfold Go.Sort.heapSort
        rw [HHI.out, ← HO.out, heapBuild]
      case round =>
        obtain ⟨k, dk, rfl, hk, hsk, hA, hB, hO⟩ := hrel
        clear HO HAK HBK
        have HO := Lib.hid hO
        have HAK := Lib.hid hA
        have HBK := Lib.hid hB
        cases k with
        | zero =>
          clear hO hA hB
          go_wp2
          go_end0
          refine ⟨rfl, ?_, HBK.out⟩
          rw [← HO.out, heapPop]
          exact HAK.out
        | succ k =>
          obtain ⟨G, hG, hcw, hfw⟩ := hA.fam hsk
          have HG := Lib.hid hG
          clear hO hA hB hG
          have ek : ((k + 1 : Nat) : Int) - 1 = (k : Int) := by omega
          rw [ek]
          have SW : ∀ q x y i j, x = G (a + k) → y = G a → i = a → j = a + k → Arr (((wr.drewN q).setCell ⟨g, off + i, none⟩ (.int .u32 x)).setCell ⟨g, off + j, none⟩ (.int .u32 y)) g off (Go.Sort.swp dk a (a + k)) ∧
              But1 g w (((wr.drewN q).setCell ⟨g, off + i, none⟩ (.int .u32 x)).setCell ⟨g, off + j, none⟩ (.int .u32 y)) := by
            rintro q x y i j rfl rfl rfl rfl
            refine ⟨?_, (HBK.out.drewN q).swp _ _ _ _⟩
            rw [HG.out, HG.out]
            exact (HAK.out.drewN q).swp _ _ (by omega) (by omega)
          have NX : ∀ w', Arr w' g off (siftDown ltI k a 0 (Go.Sort.swp dk a (a + k))) → But1 g w w' → ∃ (k' : Nat) (dk' : Array Int), Value.int .i64 ((k : Int) - 1) = .int .i64 ((k' : Int) - 1) ∧ k' ≤ hi ∧ dk'.size = n ∧ Arr w' g off dk' ∧ But1 g w w' ∧
              heapPop ltI a k' dk' = Go.Sort.heapSort ltI d a b := fun w' h1 h2 => ⟨k, _, rfl, by omega, by rw [sift_size (hi := k) (first := a) (by rw [Go.Sort.size_swp]; omega), Go.Sort.size_swp]; exact hsk, h1, h2, by rw [← HO.out, heapPop]⟩
          have SW := Lib.hid SW
          have NX := Lib.hid NX
          have hswp : (Go.Sort.swp dk a (a + k)).size = n := by rw [Go.Sort.size_swp]; exact hsk
          have HSWP := Lib.hid hswp
          clear hswp HO
          rcases Nat.eq_zero_or_pos k with rfl | hk0
          · go_wp2_with fail
            go_region
            go_wp2_with (go_at_call 96; refine (sSift g off cap 0 0 a n (Go.Sort.swp dk a (a + 0)) _ (SW.out 1 _ _ _ _ (congrArg G (by omega)) rfl rfl rfl).1 HSWP.out (by omega) (by omega) hsz).mono ?_; rintro e w' ⟨rfl, hA1, hB1⟩; have HA1 := Lib.hid hA1; have HB1 := Lib.hid ((SW.out 1 _ _ _ _ (congrArg G (by omega)) rfl rfl rfl).2.trans hB1); clear hA1 hB1)
            go_roundw
            case rel => exact NX.out _ HA1.out HB1.out
            case measure => simp [intOf]
          · go_wp2_with fail
            go_region
            go_wp2_with (go_at_call 96; refine (sSift g off cap 0 k a n (Go.Sort.swp dk a (a + k)) _ (SW.out 1 _ _ _ _ (congrArg G (by omega)) rfl rfl rfl).1 HSWP.out (by omega) (by omega) hsz).mono ?_; rintro e w' ⟨rfl, hA1, hB1⟩; have HA1 := Lib.hid hA1; have HB1 := Lib.hid ((SW.out 1 _ _ _ _ (congrArg G (by omega)) rfl rfl rfl).2.trans hB1); clear hA1 hB1)
            go_roundw
            case rel => exact NX.out _ HA1.out HB1.out
            case measure => simp [intOf]
    | succ k =>
      have ek : ((k + 1 : Nat) : Int) - 1 = (k : Int) := by omega
      rw [ek]
      go_wp2_with (go_at_call 96; refine (sSift g off cap k hi a n dk _ HAK.out hsk q0 (by omega) hsz).mono ?_; rintro e w' ⟨rfl, hA1, hB1⟩; have HA1 := Lib.hid hA1; have HB1 := Lib.hid hB1; clear hA1 hB1)
      go_roundw
      case rel =>
        refine ⟨k, siftDown ltI hi a k dk, rfl, by omega, by omega, ?_, HA1.out, HBK.out.trans HB1.out, ?_⟩
        · exact (sift_size (hi := hi) (first := a) (root := k) (d := dk) (by omega)).trans hsk
        · rw [← HO.out, heapBuild]
      case measure => simp [intOf]
end Go.Proofs.YtllpmepmgnnoaaaGreat
