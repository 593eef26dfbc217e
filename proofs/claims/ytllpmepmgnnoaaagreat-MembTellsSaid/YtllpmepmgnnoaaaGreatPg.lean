/- Package set's Make, walked. -/
import Derived.Test.YtllpmepmgnnoaaaGreatPf
namespace Go.Proofs.YtllpmepmgnnoaaaGreat
set_option linter.unusedVariables false
open Go.RowKit
open Go.Sort (PermIn)

theorem va_get {xs : List Int} {j : Nat} {v : Value} (h : (va xs)[j]? = some v) : j < xs.length ∧ v = .int .u32 (xs.getD j 0) := by
  have hj : j < (va xs).length := (List.getElem?_eq_some_iff.1 h).1
  have hj' : j < xs.length := by simpa [va] using hj
  refine ⟨hj', ?_⟩
  rw [va, List.getElem?_map, List.getElem?_eq_getElem hj'] at h
  simp at h
  rw [← h, List.getD_eq_getElem?_getD, List.getElem?_eq_getElem hj']; rfl
theorem va_len (xs : List Int) : (va xs).length = xs.length := by simp [va]
theorem va_one (xs : List Int) : ∀ u ∈ va xs, u.oneCell' = true := by
  intro u hu
  simp only [va, List.mem_map] at hu
  obtain ⟨x, _, rfl⟩ := hu
  rfl
theorem lClone (b off n c : Nat) (xs : List Int) (w : World) (hx : xs.length = n) (hm : n ≤ 1000000) (h : As w (some ⟨b, off, none⟩) xs) :
    Calls Tryz.prog 48 #[.slice (some ⟨b, off, none⟩) n c] w fun e w' => ∃ g cap, e = .returned (.slice (some ⟨g, 0, none⟩) n cap) ∧ w.heap.size ≤ g ∧ n ≤ cap ∧ Arr w' g 0 xs.toArray ∧ Below w.heap.size w w' := by
  obtain ⟨i0, hi, hz0, hz1, hz2⟩ := info_parts infoA
  refine Calls.mono (AnyE.slices_Clone Tryz.layK i0 (.int .u32 0) 1 4 hi hz0 hz1 hz2 rfl (by decide) Tryz.sizeOf25 b off n c (va xs) w (by rw [va_len]; omega) (by unfold maxLen; omega) (by omega) (fun j u hu => ?_) (va_one xs)) ?_
  · obtain ⟨hj, rfl⟩ := va_get hu
    rcases h.1 with e | ⟨b', off', e, hc⟩
    · rw [e] at hj; simp at hj
    · cases e; exact hc j hj
  · rintro e w' ⟨v', rfl, hown, hne, hb⟩
    obtain ⟨hl, ho⟩ := hown
    rcases ho with ⟨rfl, _⟩ | ⟨g, cap, cur, rfl, hB, hg, hnc, _, hsz, htk⟩
    · exact absurd rfl hne
    · refine ⟨g, cap, rfl, hB, hnc, ⟨cur, hg, by simp; omega, fun i hi => ?_⟩, hb⟩
      have hi' : i < xs.length := by simpa using hi
      have h1 : (cur.toList.take (n * 1))[i]? = some (.int .u32 (xs.getD i 0)) := by rw [htk]; simp [va, hi']
      rw [List.getElem?_take_of_lt (by omega)] at h1
      rw [Nat.zero_add, getElem!_pos _ i hi]
      simpa [List.getD_eq_getElem?_getD, hi'] using h1

set_option maxHeartbeats 1000000 in
theorem sMake (a : Option Addr) (n c : Nat) (xs : List Int) (w : World) (hx : xs.length = n) (hm : n ≤ 1000000) (h : As w a xs) (hf : Flat a n c) :
    Calls Tryz.prog 24 #[.slice a n c] w fun e w' => Out w e w' (mk xs) := by
  have HX := Lib.hid hx
  have H := Lib.hid h
  clear hx h
  rcases hf with ⟨rfl, rfl, rfl⟩ | ⟨b, off, rfl⟩
  · have hxs : xs = [] := List.eq_nil_of_length_eq_zero HX.out
    go_enter Tryz.func24, Tryz.ntmps24
    go_wp2_with (first | (go_at_call 48; refine (AnyE.slices_Clone_nil Tryz.layK _ _ _).mono ?_; rintro e w1 ⟨rfl, rfl⟩) | (go_at_call 49; refine (sSort0 _ _ _).mono ?_; rintro e w1 ⟨rfl, rfl⟩) | (go_at_call 50; refine (lCompact0 _ _ _).mono ?_; rintro e w1 ⟨rfl, rfl⟩))
    go_ret
    subst hxs
    exact ⟨⟨none, 0, rfl, As.nil _ _, .inl ⟨rfl, rfl, rfl⟩⟩, Below.refl _ _⟩
  · have hd : xs.toArray.size = n := by simpa using HX.out
    have HD := Lib.hid hd
    clear hd
    go_enter Tryz.func24, Tryz.ntmps24
    go_wp2_with fail
    refine (lClone b off n c xs _ HX.out hm H.out).mono ?_
    rintro e w1 ⟨g, cap, rfl, hg, hcap, hA, hb⟩
    have HA := Lib.hid hA
    have HB := Lib.hid hb
    clear hA hb
    go_wp2_with fail
    refine (sSort g 0 cap n xs.toArray _ HA.out HD.out hm).mono ?_
    rintro e w2 ⟨rfl, d', hps, hA2, hB2⟩
    have hds : d'.size = n := hps.1.1.trans HD.out
    have hck : Lib.compactUpTo d' n = mk xs := by
      have := hps
      rw [← HX.out] at this ⊢
      exact compact_mk this.1 this.2
    have CK := Lib.hid hck
    have HA2 := Lib.hid hA2
    have HB2 := Lib.hid (hB2.below hg HB.out.size)
    have HDS := Lib.hid hds
    clear hps hds hck hA2 hB2
    have hcomp := lCompact g 0 cap d' w2 HA2.out (by rw [HDS.out]; omega) (by rw [HDS.out]; exact hcap) (by rw [HDS.out, CK.out]; exact isA_iff.1 (mk_isA H.out.2))
    rw [HDS.out, CK.out] at hcomp
    have HC := Lib.hid hcomp
    clear hcomp
    go_wp2_with fail
    refine HC.out.mono ?_
    rintro e w3 ⟨rfl, hA3, hB3⟩
    have HA3 := Lib.hid hA3
    have HB3 := Lib.hid (hB3.below hg (Nat.le_trans HB.out.size HB2.out.size))
    clear hA3 hB3
    go_wp2
    go_ret
    exact ⟨⟨_, cap, rfl, HA3.out, .inr ⟨_, _, rfl⟩⟩, (HB.out.trans HB2.out).trans HB3.out⟩
end Go.Proofs.YtllpmepmgnnoaaaGreat
