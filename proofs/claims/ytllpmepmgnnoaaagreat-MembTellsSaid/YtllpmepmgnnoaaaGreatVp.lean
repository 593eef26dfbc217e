/- Which times may be, what is right, what is the same: the document's own answers. -/
import Derived.Test.YtllpmepmgnnoaaaGreatVl
import Derived.BigQuiet
namespace Go.Proofs.YtllpmepmgnnoaaaGreat
set_option linter.unusedVariables false
open Go.RowKit

def vAskd (g : Int) : Bool := decide (3758096640 ≤ g ∧ g ≤ 4026531839)
theorem vAsked (g : Int) (w : World) :
    Calls Tryz.prog 21 #[.int .u32 g] w fun e w' => e = .returned (.bool (vAskd g)) ∧ w' = w := by
  unfold vAskd
  by_cases h1 : 3758096640 ≤ g
  · by_cases h2 : g ≤ 4026531839
    · rw [decide_eq_true ⟨h1, h2⟩]
      go_enter Tryz.func21, Tryz.ntmps21
      go_wp2
      go_ret
      exact ⟨rfl, rfl⟩
    · rw [decide_eq_false (fun e => h2 e.2)]
      go_enter Tryz.func21, Tryz.ntmps21
      go_wp2
      go_ret
      exact ⟨rfl, rfl⟩
  · rw [decide_eq_false (fun e => h1 e.1)]
    go_enter Tryz.func21, Tryz.ntmps21
    go_wp2
    go_ret
    exact ⟨rfl, rfl⟩
/-- Times may be. -/
def mayP (kp la : Int) : Prop := 1 ≤ la ∧ la ≤ kp ∧ kp ≤ 1000000
instance (kp la : Int) : Decidable (mayP kp la) := by unfold mayP; infer_instance
theorem tim_new (w : World) (v0 v1 : Value) : (w.alloc (.cells #[v0, v1] 23)).cell? ⟨w.heap.size, 0, none⟩ = some v0 ∧ (w.alloc (.cells #[v0, v1] 23)).cell? ⟨w.heap.size, 1, none⟩ = some v1 := by
  have hN := Go.Deep.blk_alloc_new w (.cells #[v0, v1] 23)
  exact ⟨by simp only [World.cell?, hN]; rfl, by simp only [World.cell?, hN]; rfl⟩
theorem rMay8 (kp la : Int) (w : World) : Calls Tryz.prog 6 #[.agg #[.int .i64 kp, .int .i64 la]] w fun e w' => e = .returned (.bool (decide (mayP kp la))) ∧ Below w.heap.size w w' := by
  by_cases h1 : 1 ≤ la
  · by_cases h2 : la ≤ kp
    · by_cases h3 : kp ≤ 1000000
      · have HE : Hid (decide (mayP kp la) = true) := Lib.hid (decide_eq_true ⟨h1, h2, h3⟩)
        go_enter Tryz.func6, Tryz.ntmps6
        go_wp2
        go_ret
        exact ⟨ret_bool HE.out.symm, bel1 w _⟩
      · have HE : Hid (decide (mayP kp la) = false) := Lib.hid (decide_eq_false fun h => h3 h.2.2)
        have h3' : decide (kp ≤ 1000000) = false := decide_eq_false h3
        clear h3
        go_enter Tryz.func6, Tryz.ntmps6
        go_wp2
        go_ret
        exact ⟨ret_bool HE.out.symm, bel1 w _⟩
    · have HE : Hid (decide (mayP kp la) = false) := Lib.hid (decide_eq_false fun h => h2 h.2.1)
      have h2' : decide (la ≤ kp) = false := decide_eq_false h2
      clear h2
      go_enter Tryz.func6, Tryz.ntmps6
      go_wp2
      go_ret
      exact ⟨ret_bool HE.out.symm, bel1 w _⟩
  · have HE : Hid (decide (mayP kp la) = false) := Lib.hid (decide_eq_false fun h => h1 h.1)
    have h1' : decide (1 ≤ la) = false := decide_eq_false h1
    clear h1
    go_enter Tryz.func6, Tryz.ntmps6
    go_wp2
    go_ret
    exact ⟨ret_bool HE.out.symm, bel1 w _⟩
theorem mMay (kp la : Int) (w : World) : Calls Tryz.prog 12 #[.agg #[.int .i64 kp, .int .i64 la]] w fun e w' => e = .returned (.bool (decide (mayP kp la))) ∧ Below w.heap.size w w' := by
  by_cases h1 : 1 ≤ la
  · by_cases h2 : la ≤ kp
    · by_cases h3 : kp ≤ 1000000
      · have HE : Hid (decide (mayP kp la) = true) := Lib.hid (decide_eq_true ⟨h1, h2, h3⟩)
        go_enter Tryz.func12, Tryz.ntmps12
        go_wp2
        go_ret
        exact ⟨ret_bool HE.out.symm, bel1 w _⟩
      · have HE : Hid (decide (mayP kp la) = false) := Lib.hid (decide_eq_false fun h => h3 h.2.2)
        have h3' : decide (kp ≤ 1000000) = false := decide_eq_false h3
        clear h3
        go_enter Tryz.func12, Tryz.ntmps12
        go_wp2
        go_ret
        exact ⟨ret_bool HE.out.symm, bel1 w _⟩
    · have HE : Hid (decide (mayP kp la) = false) := Lib.hid (decide_eq_false fun h => h2 h.2.1)
      have h2' : decide (la ≤ kp) = false := decide_eq_false h2
      clear h2
      go_enter Tryz.func12, Tryz.ntmps12
      go_wp2
      go_ret
      exact ⟨ret_bool HE.out.symm, bel1 w _⟩
  · have HE : Hid (decide (mayP kp la) = false) := Lib.hid (decide_eq_false fun h => h1 h.1)
    have h1' : decide (1 ≤ la) = false := decide_eq_false h1
    clear h1
    go_enter Tryz.func12, Tryz.ntmps12
    go_wp2
    go_ret
    exact ⟨ret_bool HE.out.symm, bel1 w _⟩
def okL (ex : Bool) (left : Int) : Prop := if ex then 1 ≤ left ∧ left ≤ 1000000 else left = 0
def okX (ex : Bool) (x : Hd) : Prop := (0 ≤ x.2 ∧ x.2 ≤ 1000000) ∧ (ex = false → x.2 ≠ 0)
/-- What is known is right. -/
def okM (g : Int) (ex : Bool) (left : Int) (s : List Hd) : Prop := vAskd g = true ∧ s.length ≤ 64 ∧ okL ex left ∧ (∀ x ∈ s, okX ex x) ∧ Inc (ad s)
instance (l : List Int) : Decidable (Inc l) := by unfold Inc; infer_instance
instance (ex : Bool) (left : Int) : Decidable (okL ex left) := by unfold okL; infer_instance
instance (ex : Bool) (x : Hd) : Decidable (okX ex x) := by unfold okX; infer_instance
instance (g : Int) (ex : Bool) (left : Int) (s : List Hd) : Decidable (okM g ex left s) := by unfold okM; infer_instance
theorem inc_st {s : List Hd} {k : Nat} {x p : Hd} (h : Inc (ad (s.take (k + 1)))) (hs : s[k + 1]? = some x) (hp : s[k]? = some p) (hlt : p.1 < x.1) : Inc (ad (s.take (k + 1 + 1))) := by
  unfold Inc ad at *
  rw [takeH hs, List.map_append, List.pairwise_append]
  refine ⟨h, by simp, fun a ha b hb => ?_⟩
  simp at hb; subst hb
  rw [takeH hp, List.map_append, List.pairwise_append] at h
  rw [takeH hp, List.map_append] at ha
  rcases List.mem_append.1 ha with h1 | h1
  · have := h.2.2 a h1 p.1 (by simp); omega
  · simp at h1; subst h1; exact hlt
theorem inc_one {s : List Hd} {x : Hd} (hs : s[0]? = some x) : Inc (ad (s.take (0 + 1))) := by
  rw [takeH hs]; unfold Inc ad; simp
theorem inc_not {s : List Hd} {k : Nat} {x p : Hd} (hs : s[k + 1]? = some x) (hp : s[k]? = some p) (hge : ¬ p.1 < x.1) : ¬ Inc (ad s) := by
  unfold Inc
  intro h
  rw [List.pairwise_iff_getElem] at h
  obtain ⟨h1, e1⟩ := List.getElem?_eq_some_iff.1 hs
  obtain ⟨h2, e2⟩ := List.getElem?_eq_some_iff.1 hp
  have := h k (k + 1) (by rw [ad_len]; exact h2) (by rw [ad_len]; exact h1) (by omega)
  rw [show (ad s)[k]'(by rw [ad_len]; exact h2) = s[k].1 by simp [ad], show (ad s)[k + 1]'(by rw [ad_len]; exact h1) = s[k + 1].1 by simp [ad], e1, e2] at this
  exact hge this
set_option maxRecDepth 100000 in
set_option maxHeartbeats 16000000 in
/-- The sources' part of Right. -/
theorem rRight8 (g : Int) (ex : Bool) (left : Int) (a : Option Addr) (n c : Nat) (s : List Hd) (w : World) (hx : s.length = n) (hH : Hs w a s) (hm : n ≤ 9223372036854775807) :
    Calls Tryz.prog 7 #[.agg #[.int .u32 g, .bool ex, .int .i64 left, .slice a n c]] w fun e w' => e = .returned (.bool (decide (okM g ex left s))) ∧ Below w.heap.size w w' := by
  have HX := Lib.hid hx
  have HH := Lib.hid hH
  clear hx hH
  obtain ⟨ask, hask⟩ : ∃ ask, vAskd g = ask := ⟨_, rfl⟩
  have D2 := Lib.hid hask
  clear hask
  obtain ⟨w1, hw1⟩ : ∃ w1, w1 = w.alloc (.cells #[.int .u32 g, .bool ex, .int .i64 left, .slice a n c] 28) := ⟨_, rfl⟩
  have V0 : Hid (MV w1 w.heap.size g ex left a n c) := Lib.hid (by rw [hw1]; exact MV.new w g ex left a n c)
  have HB := Lib.hid (by rw [hw1]; exact bel1 w _ : Below w.heap.size w w1)
  have HH1 := Lib.hid (HH.out.below HB.out)
  go_enter Tryz.func7, Tryz.ntmps7
  go_wp2_with fail
  rw [← hw1]
  clear hw1
  refine (vAsked g w1).mono ?_
  rintro e w2 ⟨rfl, rfl⟩
  rw [D2.out]
  obtain ⟨c0, c1, c2, c3, -⟩ := V0.out.cells
  cases ask
  · have HE : Hid (decide (okM g ex left s) = false) := Lib.hid (decide_eq_false fun h => by have := h.1; rw [D2.out] at this; cases this)
    go_wp2
    go_ret
    exact ⟨ret_bool HE.out.symm, HB.out⟩
  by_cases h64 : n ≤ 64
  · have h64' : (n : Int) ≤ 64 := by omega
    by_cases hle : okL ex left
    · have HLE := Lib.hid hle
      cases ex
      · obtain rfl : left = 0 := hle
        go_wp2
        go_loopw [4] (fun v4 wr => ∃ k : Nat, v4 = .int .i64 (k : Int) ∧ k ≤ n ∧ (∀ x ∈ s.take k, okX false x) ∧ Inc (ad (s.take k)) ∧ Below w.heap.size w wr ∧ MV wr w.heap.size g false 0 a n c) (fun v _ => n - (intOf v).toNat)
        case atStart => exact ⟨0, rfl, by omega, by simp, by simp [Inc, ad], HB.out, V0.out⟩
        case round =>
          clear V0 HB HH1 c0 c1 c2 c3
          obtain ⟨k, rfl, hk, hal, hri, hB, hv0⟩ := hrel
          have HA := Lib.hid hal
          have HRI := Lib.hid hri
          have HB9 := Lib.hid hB
          have V9 := Lib.hid hv0
          clear hal hri hB hv0
          obtain ⟨c0, c1, c2, c3, -⟩ := V9.out.cells
          by_cases hlt : k < n
          · obtain ⟨b, off, rfl, hc⟩ := HH.out.at (k := k) (by rw [HX.out]; exact hlt)
            obtain ⟨⟨x1, x2⟩, hfk⟩ : ∃ x, s[k]? = some x := ⟨_, List.getElem?_eq_getElem (by rw [HX.out]; exact hlt)⟩
            obtain ⟨d0, d1⟩ := (hc k _ hfk).below HB9.out
            simp only at d0 d1
            have HK := Lib.hid hfk
            have HC := Lib.hid hc
            have HBR := HB9
            have hkz : (k : Int) < (n : Int) := by omega
            have k0 : (0 : Int) ≤ (k : Int) := by omega
            have e1 : ∀ q, (wr.drewN q).cell? ⟨w.heap.size, 1, none⟩ = some (.bool false) := fun q => c1
            have e3 : ∀ q, (wr.drewN q).cell? ⟨w.heap.size, 3, none⟩ = some (.slice (some ⟨b, off, none⟩) n c) := fun q => c3
            have t5 : ∀ q, (wr.drewN q).cell? ⟨b, off + k * 2, none⟩ = some (.int .u32 x1) := fun q => d0
            clear hc hfk
            by_cases hx0 : x2 < 0
            · have hno : Hid (¬ okX false (x1, x2)) := Lib.hid (fun h => by have := h.1.1; simp only at this; omega)
              go_wp2
              go_quiet (fail)
              go_wp2
              go_ret
              exact ⟨ret_bool (decide_eq_false fun h => hno.out (h.2.2.2.1 _ (List.mem_of_getElem? HK.out))).symm, bdrawn HB9.out _⟩
            · have hx0' : decide (x2 < 0) = false := decide_eq_false hx0
              by_cases hxm : 1000000 < x2
              · have hno : Hid (¬ okX false (x1, x2)) := Lib.hid (fun h => by have := h.1.2; simp only at this; omega)
                clear hx0
                go_wp2
                go_quiet (fail)
                go_wp2
                go_ret
                exact ⟨ret_bool (decide_eq_false fun h => hno.out (h.2.2.2.1 _ (List.mem_of_getElem? HK.out))).symm, bdrawn HB9.out _⟩
              · have hxm' : decide (1000000 < x2) = false := decide_eq_false hxm
                by_cases hxz : x2 = 0
                · have hxz' : (x2 == 0) = true := by simpa using hxz
                  have hno : Hid (¬ okX false (x1, x2)) := Lib.hid (fun h => h.2 rfl hxz)
                  clear hx0 hxm hxz
                  go_wp2
                  go_quiet (fail)
                  go_wp2
                  go_ret
                  exact ⟨ret_bool (decide_eq_false fun h => hno.out (h.2.2.2.1 _ (List.mem_of_getElem? HK.out))).symm, bdrawn HB9.out _⟩
                · have hxz' : (x2 == 0) = false := by simpa using hxz
                  have HOK : Hid (okX false (x1, x2)) := Lib.hid ⟨⟨by simp only; omega, by simp only; omega⟩, fun _ => hxz⟩
                  clear hx0 hxm hxz
                  rcases k with _ | m
                  · simp only [Int.ofNat_zero, Nat.zero_mul, Nat.add_zero] at *
                    go_wp2
                    go_quiet (fail)
                    go_wp2
                    go_roundw
                    case rel => exact ⟨_, by go_num, by omega, by rw [takeH HK.out]; intro x hx; rcases List.mem_append.1 hx with h | h; exact HA.out x h; simp at h; subst h; exact HOK.out, inc_one HK.out, bdrawn HB9.out _, V9.out⟩
                    case measure => simp [intOf]; omega
                  · obtain ⟨⟨p1, p2⟩, hpk⟩ : ∃ x, s[m]? = some x := ⟨_, List.getElem?_eq_getElem (by rw [HX.out]; omega)⟩
                    have hpc := ((HC.out m _ hpk).below HBR.out).1
                    have p5 : ∀ q, (wr.drewN q).cell? ⟨b, off + m * 2, none⟩ = some (.int .u32 p1) := fun q => hpc
                    have HP := Lib.hid hpk
                    have hm1 : ((m + 1 : Nat) : Int) = (m : Int) + 1 := by omega
                    rw [hm1] at *
                    have hm0 : (0 : Int) < (m : Int) + 1 := by omega
                    have hm2 : (m : Int) < (n : Int) := by omega
                    have hm3 : (0 : Int) ≤ (m : Int) := by omega
                    clear hpc hpk hm1
                    by_cases hge : x1 ≤ p1
                    · have hge1 : x1 ≤ p1 := hge
                      go_wp2
                      go_quiet (fail)
                      go_wp2
                      go_ret
                      exact ⟨ret_bool (decide_eq_false fun h => inc_not HK.out HP.out (by show ¬ p1 < x1; omega) h.2.2.2.2).symm, bdrawn HB9.out _⟩
                    · have hge1 : decide (x1 ≤ p1) = false := decide_eq_false hge
                      have hlt2 : Hid (p1 < x1) := Lib.hid (by omega)
                      clear hge
                      go_wp2
                      go_quiet (fail)
                      go_wp2
                      go_roundw
                      case rel => exact ⟨_, by go_num, by omega, by rw [takeH HK.out]; intro x hx; rcases List.mem_append.1 hx with h | h; exact HA.out x h; simp at h; subst h; exact HOK.out, inc_st HRI.out HK.out HP.out hlt2.out, bdrawn HB9.out _, V9.out⟩
                      case measure => simp [intOf]; omega
          · obtain rfl : k = n := by omega
            have htk : s.take k = s := List.take_of_length_le (by rw [HX.out]; exact Nat.le_refl _)
            have HA' := HA.out
            have HRI' := HRI.out
            rw [htk] at HA' HRI'
            have HE := Lib.hid (decide_eq_true (show okM g false 0 s from ⟨D2.out, by rw [HX.out]; exact h64, HLE.out, HA', HRI'⟩))
            clear HA' HRI' htk
            go_wp2_with fail
            go_ret
            exact ⟨ret_bool HE.out.symm, HB9.out⟩
      · have hl1 : 1 ≤ left := hle.1
        have hl2 : left ≤ 1000000 := hle.2
        have hl3 : decide (left < 1) = false := decide_eq_false (by omega)
        have hl4 : decide (1000000 < left) = false := decide_eq_false (by omega)
        clear hle hl1 hl2
        go_wp2
        go_loopw [4] (fun v4 wr => ∃ k : Nat, v4 = .int .i64 (k : Int) ∧ k ≤ n ∧ (∀ x ∈ s.take k, okX true x) ∧ Inc (ad (s.take k)) ∧ Below w.heap.size w wr ∧ MV wr w.heap.size g true left a n c) (fun v _ => n - (intOf v).toNat)
        case atStart => exact ⟨0, rfl, by omega, by simp, by simp [Inc, ad], HB.out, V0.out⟩
        case round =>
          clear V0 HB HH1 c0 c1 c2 c3
          obtain ⟨k, rfl, hk, hal, hri, hB, hv0⟩ := hrel
          have HA := Lib.hid hal
          have HRI := Lib.hid hri
          have HB9 := Lib.hid hB
          have V9 := Lib.hid hv0
          clear hal hri hB hv0
          obtain ⟨c0, c1, c2, c3, -⟩ := V9.out.cells
          by_cases hlt : k < n
          · obtain ⟨b, off, rfl, hc⟩ := HH.out.at (k := k) (by rw [HX.out]; exact hlt)
            obtain ⟨⟨x1, x2⟩, hfk⟩ : ∃ x, s[k]? = some x := ⟨_, List.getElem?_eq_getElem (by rw [HX.out]; exact hlt)⟩
            obtain ⟨d0, d1⟩ := (hc k _ hfk).below HB9.out
            simp only at d0 d1
            have HK := Lib.hid hfk
            have HC := Lib.hid hc
            have HBR := HB9
            have hkz : (k : Int) < (n : Int) := by omega
            have k0 : (0 : Int) ≤ (k : Int) := by omega
            have e1 : ∀ q, (wr.drewN q).cell? ⟨w.heap.size, 1, none⟩ = some (.bool true) := fun q => c1
            have e3 : ∀ q, (wr.drewN q).cell? ⟨w.heap.size, 3, none⟩ = some (.slice (some ⟨b, off, none⟩) n c) := fun q => c3
            have t5 : ∀ q, (wr.drewN q).cell? ⟨b, off + k * 2, none⟩ = some (.int .u32 x1) := fun q => d0
            clear hc hfk
            by_cases hx0 : x2 < 0
            · have hno : Hid (¬ okX true (x1, x2)) := Lib.hid (fun h => by have := h.1.1; simp only at this; omega)
              go_wp2
              go_quiet (fail)
              go_wp2
              go_ret
              exact ⟨ret_bool (decide_eq_false fun h => hno.out (h.2.2.2.1 _ (List.mem_of_getElem? HK.out))).symm, bdrawn HB9.out _⟩
            · have hx0' : decide (x2 < 0) = false := decide_eq_false hx0
              by_cases hxm : 1000000 < x2
              · have hno : Hid (¬ okX true (x1, x2)) := Lib.hid (fun h => by have := h.1.2; simp only at this; omega)
                clear hx0
                go_wp2
                go_quiet (fail)
                go_wp2
                go_ret
                exact ⟨ret_bool (decide_eq_false fun h => hno.out (h.2.2.2.1 _ (List.mem_of_getElem? HK.out))).symm, bdrawn HB9.out _⟩
              · have hxm' : decide (1000000 < x2) = false := decide_eq_false hxm
                by_cases hxz : x2 = 0
                · have hxz' : (x2 == 0) = true := by simpa using hxz
                  have HOK : Hid (okX true (x1, x2)) := Lib.hid ⟨⟨by simp only; omega, by simp only; omega⟩, fun h => by cases h⟩
                  clear hx0 hxm hxz
                  rcases k with _ | m
                  · simp only [Int.ofNat_zero, Nat.zero_mul, Nat.add_zero] at *
                    go_wp2
                    go_quiet (fail)
                    go_wp2
                    go_roundw
                    case rel => exact ⟨_, by go_num, by omega, by rw [takeH HK.out]; intro x hx; rcases List.mem_append.1 hx with h | h; exact HA.out x h; simp at h; subst h; exact HOK.out, inc_one HK.out, bdrawn HB9.out _, V9.out⟩
                    case measure => simp [intOf]; omega
                  · obtain ⟨⟨p1, p2⟩, hpk⟩ : ∃ x, s[m]? = some x := ⟨_, List.getElem?_eq_getElem (by rw [HX.out]; omega)⟩
                    have hpc := ((HC.out m _ hpk).below HBR.out).1
                    have p5 : ∀ q, (wr.drewN q).cell? ⟨b, off + m * 2, none⟩ = some (.int .u32 p1) := fun q => hpc
                    have HP := Lib.hid hpk
                    have hm1 : ((m + 1 : Nat) : Int) = (m : Int) + 1 := by omega
                    rw [hm1] at *
                    have hm0 : (0 : Int) < (m : Int) + 1 := by omega
                    have hm2 : (m : Int) < (n : Int) := by omega
                    have hm3 : (0 : Int) ≤ (m : Int) := by omega
                    clear hpc hpk hm1
                    by_cases hge : x1 ≤ p1
                    · have hge1 : x1 ≤ p1 := hge
                      go_wp2
                      go_quiet (fail)
                      go_wp2
                      go_ret
                      exact ⟨ret_bool (decide_eq_false fun h => inc_not HK.out HP.out (by show ¬ p1 < x1; omega) h.2.2.2.2).symm, bdrawn HB9.out _⟩
                    · have hge1 : decide (x1 ≤ p1) = false := decide_eq_false hge
                      have hlt2 : Hid (p1 < x1) := Lib.hid (by omega)
                      clear hge
                      go_wp2
                      go_quiet (fail)
                      go_wp2
                      go_roundw
                      case rel => exact ⟨_, by go_num, by omega, by rw [takeH HK.out]; intro x hx; rcases List.mem_append.1 hx with h | h; exact HA.out x h; simp at h; subst h; exact HOK.out, inc_st HRI.out HK.out HP.out hlt2.out, bdrawn HB9.out _, V9.out⟩
                      case measure => simp [intOf]; omega
                · have hxz' : (x2 == 0) = false := by simpa using hxz
                  have HOK : Hid (okX true (x1, x2)) := Lib.hid ⟨⟨by simp only; omega, by simp only; omega⟩, fun _ => hxz⟩
                  clear hx0 hxm hxz
                  rcases k with _ | m
                  · simp only [Int.ofNat_zero, Nat.zero_mul, Nat.add_zero] at *
                    go_wp2
                    go_quiet (fail)
                    go_wp2
                    go_roundw
                    case rel => exact ⟨_, by go_num, by omega, by rw [takeH HK.out]; intro x hx; rcases List.mem_append.1 hx with h | h; exact HA.out x h; simp at h; subst h; exact HOK.out, inc_one HK.out, bdrawn HB9.out _, V9.out⟩
                    case measure => simp [intOf]; omega
                  · obtain ⟨⟨p1, p2⟩, hpk⟩ : ∃ x, s[m]? = some x := ⟨_, List.getElem?_eq_getElem (by rw [HX.out]; omega)⟩
                    have hpc := ((HC.out m _ hpk).below HBR.out).1
                    have p5 : ∀ q, (wr.drewN q).cell? ⟨b, off + m * 2, none⟩ = some (.int .u32 p1) := fun q => hpc
                    have HP := Lib.hid hpk
                    have hm1 : ((m + 1 : Nat) : Int) = (m : Int) + 1 := by omega
                    rw [hm1] at *
                    have hm0 : (0 : Int) < (m : Int) + 1 := by omega
                    have hm2 : (m : Int) < (n : Int) := by omega
                    have hm3 : (0 : Int) ≤ (m : Int) := by omega
                    clear hpc hpk hm1
                    by_cases hge : x1 ≤ p1
                    · have hge1 : x1 ≤ p1 := hge
                      go_wp2
                      go_quiet (fail)
                      go_wp2
                      go_ret
                      exact ⟨ret_bool (decide_eq_false fun h => inc_not HK.out HP.out (by show ¬ p1 < x1; omega) h.2.2.2.2).symm, bdrawn HB9.out _⟩
                    · have hge1 : decide (x1 ≤ p1) = false := decide_eq_false hge
                      have hlt2 : Hid (p1 < x1) := Lib.hid (by omega)
                      clear hge
                      go_wp2
                      go_quiet (fail)
                      go_wp2
                      go_roundw
                      case rel => exact ⟨_, by go_num, by omega, by rw [takeH HK.out]; intro x hx; rcases List.mem_append.1 hx with h | h; exact HA.out x h; simp at h; subst h; exact HOK.out, inc_st HRI.out HK.out HP.out hlt2.out, bdrawn HB9.out _, V9.out⟩
                      case measure => simp [intOf]; omega
          · obtain rfl : k = n := by omega
            have htk : s.take k = s := List.take_of_length_le (by rw [HX.out]; exact Nat.le_refl _)
            have HA' := HA.out
            have HRI' := HRI.out
            rw [htk] at HA' HRI'
            have HE := Lib.hid (decide_eq_true (show okM g true left s from ⟨D2.out, by rw [HX.out]; exact h64, HLE.out, HA', HRI'⟩))
            clear HA' HRI' htk
            go_wp2_with fail
            go_ret
            exact ⟨ret_bool HE.out.symm, HB9.out⟩
    · have HE : Hid (decide (okM g ex left s) = false) := Lib.hid (decide_eq_false fun h => hle h.2.2.1)
      cases ex
      · have hl : (left == 0) = false := by simpa [okL] using hle
        clear hle
        go_wp2
        go_ret
        exact ⟨ret_bool HE.out.symm, HB.out⟩
      · by_cases hl1 : left < 1
        · clear hle
          go_wp2
          go_ret
          exact ⟨ret_bool HE.out.symm, HB.out⟩
        · have hl2 : 1000000 < left := by
            refine Classical.byContradiction fun h => hle ?_
            exact ⟨by omega, by omega⟩
          have hl3 : decide (left < 1) = false := decide_eq_false hl1
          clear hle hl1
          go_wp2
          go_ret
          exact ⟨ret_bool HE.out.symm, HB.out⟩
  · have HE : Hid (decide (okM g ex left s) = false) := Lib.hid (decide_eq_false fun h => h64 (by have := h.2.1; rw [HX.out] at this; exact this))
    have h64' : (64 : Int) < (n : Int) := by omega
    clear h64
    go_wp2
    go_ret
    exact ⟨ret_bool HE.out.symm, HB.out⟩
end Go.Proofs.YtllpmepmgnnoaaaGreat
