/- The document's Recs: are records the same? -/
import Derived.Test.YtmcbbccbonadjaaW0
import Derived.Test.YtmcbbccbonadjaaW1
import Derived.Test.YtmcbbccbonadjaaW2
import Derived.Test.YtmcbbccbonadjaaW3
import Derived.Test.YtmcbbccbonadjaaW4
import Derived.Test.YtmcbbccbonadjaaW5
import Derived.Test.YtmcbbccbonadjaaW6
import Derived.Test.YtmcbbccbonadjaaW7
import Derived.Test.YtmcbbccbonadjaaW8
import Derived.Test.YtmcbbccbonadjaaW9
import Derived.Test.YtmcbbccbonadjaaW10
import Derived.Test.YtmcbbccbonadjaaW11
import Derived.Test.YtmcbbccbonadjaaW12
namespace Go.Proofs.Ytmcbbccbonadjaa
set_option linter.unusedVariables false
open Go.RowKit

set_option maxRecDepth 100000 in
set_option maxHeartbeats 2000000 in
theorem rRec (t1 t2 g1 g2 : Int) (a b : Option Addr) (n m c d : Nat) (xs ys : List Int) (w : World) (hx : xs.length = n) (hy : ys.length = m) (hm : n ≤ 1000000000) (h1 : As w a xs) (h2 : As w b ys) :
    Calls Try.prog 50 #[.agg #[.int .u8 t1, .int .u32 g1, .slice a n c], .agg #[.int .u8 t2, .int .u32 g2, .slice b m d]] w fun e w' => e = .returned (.bool (decide (t1 = t2 ∧ g1 = g2 ∧ xs = ys))) ∧ Below w.heap.size w w' := by
  have HX := Lib.hid hx
  have HY := Lib.hid hy
  have hb2 := bel2 w (.cells #[.int .u8 t1, .int .u32 g1, .slice a n c] 68) (.cells #[.int .u8 t2, .int .u32 g2, .slice b m d] 68)
  have H1 := Lib.hid (h1.below hb2)
  have H2 := Lib.hid (h2.below hb2)
  have HB := Lib.hid hb2
  clear hx hy h1 h2 hb2
  by_cases ht : t1 = t2
  · by_cases hg : g1 = g2
    · have e : decide (t1 = t2 ∧ g1 = g2 ∧ xs = ys) = decide (xs = ys) := decide_eq_decide.2 ⟨fun h => h.2.2, fun h => ⟨ht, hg, h⟩⟩
      rw [e]
      clear e
      have ht1 : (t1 == t2) = true := by simpa using ht
      have hg1 : (g1 == g2) = true := by simpa using hg
      clear ht hg
      go_enter Try.func50, Try.ntmps50
      go_wp2_with fail
      refine (rRows a b n m c d xs ys _ HX.out HY.out (by omega) H1.out H2.out).mono ?_
      rintro e w2 ⟨rfl, hb⟩
      have HB := Lib.hid (HB.out.trans (hb.mono HB.out.size))
      clear hb
      obtain ⟨eb, heb⟩ : ∃ eb, decide (xs = ys) = eb := ⟨_, rfl⟩
      rw [heb]
      have HE := Lib.hid heb
      clear heb
      go_wp2_with fail
      go_ret
      exact ⟨ret_bool HE.out.symm, HB.out⟩
    · rw [decide_eq_false (fun h => hg h.2.1)]
      have ht1 : (t1 == t2) = true := by simpa using ht
      have hg1 : (g1 == g2) = false := by simpa using hg
      clear ht hg
      go_enter Try.func50, Try.ntmps50
      go_wp2_with fail
      go_ret
      exact ⟨rfl, HB.out⟩
  · rw [decide_eq_false (fun h => ht h.1)]
    have ht1 : (t1 == t2) = false := by simpa using ht
    clear ht
    go_enter Try.func50, Try.ntmps50
    go_wp2_with fail
    go_ret
    exact ⟨rfl, HB.out⟩
theorem rnm_eq {s t : Rc} : s.nm = t.nm ↔ s.ty = t.ty ∧ s.g = t.g ∧ s.srcs = t.srcs := by
  obtain ⟨i, g, l, a, c⟩ := s
  obtain ⟨j, h, m, b, d⟩ := t
  simp only [Rc.nm, Rc.mk.injEq, and_true]
instance : DecidableEq Rc := fun f g => decidable_of_iff (f.ty = g.ty ∧ f.g = g.g ∧ f.srcs = g.srcs ∧ f.a = g.a ∧ f.c = g.c) ⟨fun ⟨h1, h2, h3, h4, h5⟩ => by cases f; cases g; simp_all, fun h => by subst h; exact ⟨rfl, rfl, rfl, rfl, rfl⟩⟩
theorem rnm_step {ss tt : List Rc} {k : Nat} {s t : Rc} (h : (ss.take k).map Rc.nm = (tt.take k).map Rc.nm) (hs : ss[k]? = some s) (ht : tt[k]? = some t) (e : s.nm = t.nm) : (ss.take (k + 1)).map Rc.nm = (tt.take (k + 1)).map Rc.nm := by
  rw [takeS hs, takeS ht, List.map_append, List.map_append, h]; simp [e]
theorem rnm_no {ss tt : List Rc} {k : Nat} {s t : Rc} (hs : ss[k]? = some s) (ht : tt[k]? = some t) (e : s.nm ≠ t.nm) : ss.map Rc.nm ≠ tt.map Rc.nm := by
  intro h
  have := congrArg (fun l : List Rc => l[k]?) h
  simp [hs, ht] at this
  exact e this
def rrV (b1 o1 b2 o2 n c d k : Nat) (t1 t2 g1 g2 : Int) (fa1 fa2 : Option Addr) (sn1 fc1 sn2 fc2 : Nat) (eqf : Bool) : Nat → Value → List Value → World → Prop
  | 0, v, _, _ => v = .slice (some ⟨b1, o1, none⟩) n c
  | 1, v, _, _ => v = .int .i64 (k : Nat)
  | 2, v, _, _ => v = .pointer (some ⟨b1, o1 + k * 3, none⟩)
  | 3, v, _, _ => v = .agg #[.int .u8 t1, .int .u32 g1, .slice fa1 sn1 fc1]
  | 4, v, _, _ => v = .slice (some ⟨b2, o2, none⟩) n d
  | 5, v, _, _ => v = .int .i64 (k : Nat)
  | 6, v, _, _ => v = .pointer (some ⟨b2, o2 + k * 3, none⟩)
  | 7, v, _, _ => v = .agg #[.int .u8 t2, .int .u32 g2, .slice fa2 sn2 fc2]
  | 8, v, _, _ => v = .bool eqf
  | 9, v, _, _ => v = .bool eqf
  | _, _, _, _ => True
def rrD : Nat → List Nat
  | 2 => [0, 1]
  | 3 => [2]
  | 6 => [4, 5]
  | 7 => [6]
  | 8 => [3, 7]
  | 9 => [8]
  | _ => []
theorem rr_st (b1 o1 b2 o2 n c d k : Nat) (t1 t2 g1 g2 : Int) (fa1 fa2 : Option Addr) (sn1 fc1 sn2 fc2 : Nat) (eqf : Bool) {i : Nat} {v : Value} {us : List Value} {w w' : World}  (hr : True) (hv : rrV b1 o1 b2 o2 n c d k t1 t2 g1 g2 fa1 fa2 sn1 fc1 sn2 fc2 eqf i v us w) : rrV b1 o1 b2 o2 n c d k t1 t2 g1 g2 fa1 fa2 sn1 fc1 sn2 fc2 eqf i v us w' := by
  unfold rrV at hv ⊢
  split at hv
  all_goals first
    | exact hv
set_option maxRecDepth 100000 in
set_option maxHeartbeats 8000000 in
theorem rRecs (a b : Option Addr) (n m c d : Nat) (ss tt : List Rc) (w : World) (hx : ss.length = n) (hy : tt.length = m) (hn : n ≤ 1125899906842624) (hm : m ≤ 1125899906842624) (hl : ∀ s ∈ ss, s.srcs.length ≤ 1000000000) (h1 : Rcs w a ss) (h2 : Rcs w b tt) :
    Calls Try.prog 24 #[.slice a n c, .slice b m d] w fun e w' => e = .returned (.bool (decide (ss.map Rc.nm = tt.map Rc.nm))) ∧ Below w.heap.size w w' := by
  have HX := Lib.hid hx
  have HY := Lib.hid hy
  have HL1 := Lib.hid hl
  have H1 := Lib.hid h1
  have H2 := Lib.hid h2
  clear hx hy hl h1 h2
  go_enter Try.func24, Try.ntmps24
  by_cases hnm : n = m
  · subst hnm
    go_wp2
    go_loopw [5] (fun v5 wr => ∃ k : Nat, v5 = .int .i64 (k : Int) ∧ k ≤ n ∧ (ss.take k).map Rc.nm = (tt.take k).map Rc.nm ∧ Below w.heap.size w wr) (fun v _ => n - (intOf v).toNat)
    case atStart => exact ⟨0, rfl, by omega, by simp, Below.refl _ _⟩
    case round =>
      obtain ⟨k, rfl, hk, hnm, hB⟩ := hrel
      have HNM := Lib.hid hnm
      have HB := Lib.hid hB
      clear hnm hB
      by_cases hlt : k < n
      · obtain ⟨b1, o1, rfl, hf1⟩ := H1.out.at (k := k) (by rw [HX.out]; exact hlt)
        obtain ⟨b2, o2, rfl, hf2⟩ := H2.out.at (k := k) (by rw [HY.out]; exact hlt)
        obtain ⟨⟨t1, g1, sr1, fa1, fc1⟩, hk1⟩ : ∃ s, ss[k]? = some s := ⟨_, List.getElem?_eq_getElem (by rw [HX.out]; exact hlt)⟩
        obtain ⟨⟨t2, g2, sr2, fa2, fc2⟩, hk2⟩ : ∃ s, tt[k]? = some s := ⟨_, List.getElem?_eq_getElem (by rw [HY.out]; exact hlt)⟩
        obtain ⟨⟨d0, d1, d2⟩, hfo1, -⟩ := (hf1 k _ hk1).below HB.out
        obtain ⟨⟨q0, q1, q2⟩, hfo2, -⟩ := (hf2 k _ hk2).below HB.out
        simp only [Rc.sl] at d0 d1 d2 hfo1 q0 q1 q2 hfo2
        have hs1 := HL1.out _ (List.mem_of_getElem? hk1)
        simp only [] at hs1
        have HSM0 := fun W (hW : Below wr.heap.size wr W) => rRec t1 t2 g1 g2 fa1 fa2 _ _ fc1 fc2 sr1 sr2 W rfl rfl hs1 (hfo1.below hW) (hfo2.below hW)
        obtain ⟨sn1, hsn1⟩ : ∃ sn, sr1.length = sn := ⟨_, rfl⟩
        obtain ⟨sn2, hsn2⟩ : ∃ sn, sr2.length = sn := ⟨_, rfl⟩
        obtain ⟨eqf, heqf⟩ : ∃ e, decide (t1 = t2 ∧ g1 = g2 ∧ sr1 = sr2) = e := ⟨_, rfl⟩
        rw [hsn1] at d2
        rw [hsn2] at q2
        simp only [hsn1, hsn2, heqf] at HSM0
        have HSM := Lib.hid HSM0
        have HD := Lib.hid heqf
        have HK1 := Lib.hid hk1
        have HK2 := Lib.hid hk2
        have S0 := Lib.hid d0
        have S1 := Lib.hid d1
        have S2 := Lib.hid d2
        have T0 := Lib.hid q0
        have T1 := Lib.hid q1
        have T2 := Lib.hid q2
        have HKN : Hid (k < n) := Lib.hid hlt
        have hkz : (k : Int) < (n : Int) := by omega
        clear hf1 hf2 hk1 hk2 hfo1 hfo2 d0 d1 d2 q0 q1 q2 hs1 HSM0 hsn1 hsn2 heqf
        go_wp2_with fail
        refine wp_region_each3 (rrV b1 o1 b2 o2 n c d k t1 t2 g1 g2 fa1 fa2 sn1 fc1 sn2 fc2 eqf) (fun W => Below wr.heap.size wr W) (fun _ A B => Below A.heap.size A B) rrD [18, 19, 20, 21, 22, 23, 24, 25, 26, 6] (by kernel_rfl) (by kernel_rfl) (by kernel_rfl) (Below.refl _ wr).drew
          (fun i j oi oj v us A B hoi hoj hij hw hSA hr hv => rr_st _ _ _ _ _ _ _ _ _ _ _ _ _ _ _ _ _ _ _ trivial hv) ?hgd
          ⟨?_, ?_, ?_, ?_, ?_, ?_, ?_, ?_, ?_, ?_, trivial⟩ ?hend
        case hgd =>
          intro i o g b hoi hog v us w hv
          have hi : i < 10 := (Array.getElem?_eq_some_iff.1 hoi).1
          have hc : i = 0 ∨ i = 1 ∨ i = 2 ∨ i = 3 ∨ i = 4 ∨ i = 5 ∨ i = 6 ∨ i = 7 ∨ i = 8 ∨ i = 9 := by omega
          rcases hc with rfl | rfl | rfl | rfl | rfl | rfl | rfl | rfl | rfl | rfl
          · cases hoi; cases hog
          · cases hoi; cases hog
          · cases hoi; cases hog
          · cases hoi; cases hog
          · cases hoi; cases hog
          · cases hoi; cases hog
          · cases hoi; cases hog
          · cases hoi; cases hog
          · cases hoi; cases hog
          · cases hoi; cases hog
        case refine_1 =>
          intro a' w9 hS h0 hd
          have e0 : a'.tmps[0]?.getD undef = .slice (some ⟨b1, o1, none⟩) n c := evG (h0 0 (by kernel_rfl))
          refine Does2.value (.slice (some ⟨b1, o1, none⟩) n c) (w' := w9) ?_ ⟨rfl, hS, Below.refl _ _⟩
          clear hS h0 hd
          go_simp
        case refine_2 =>
          intro a' w9 hS h0 hd
          have e5 : a'.tmps[5]?.getD undef = .int .i64 (k : Nat) := evG (h0 5 (by kernel_rfl))
          refine Does2.value (.int .i64 (k : Nat)) (w' := w9) ?_ ⟨rfl, hS, Below.refl _ _⟩
          clear hS h0 hd
          go_simp
        case refine_3 =>
          intro a' w9 hS h0 hd
          have e18 : a'.tmps[18]?.getD undef = .slice (some ⟨b1, o1, none⟩) n c := evG (hd 0 List.mem_cons_self)
          have e19 : a'.tmps[19]?.getD undef = .int .i64 (k : Nat) := evG (hd 1 (List.mem_cons_of_mem _ List.mem_cons_self))
          have hk0 := HKN.out
          refine Does2.value (.pointer (some ⟨b1, o1 + k * 3, none⟩)) (w' := w9) ?_ ⟨rfl, hS, Below.refl _ _⟩
          clear hS h0 hd
          go_simp
        case refine_4 =>
          intro a' w9 hS h0 hd
          have e20 : a'.tmps[20]?.getD undef = .pointer (some ⟨b1, o1 + k * 3, none⟩) := evG (hd 2 List.mem_cons_self)
          have c0 := (hS.cell (cell_lt S0.out)).trans S0.out
          have c1 := (hS.cell (cell_lt S1.out)).trans S1.out
          have c2 := (hS.cell (cell_lt S2.out)).trans S2.out
          refine Does2.value (.agg #[.int .u8 t1, .int .u32 g1, .slice fa1 sn1 fc1]) (w' := w9) ?_ ⟨rfl, hS, Below.refl _ _⟩
          clear hS h0 hd
          go_simp
        case refine_5 =>
          intro a' w9 hS h0 hd
          have e1 : a'.tmps[1]?.getD undef = .slice (some ⟨b2, o2, none⟩) n d := evG (h0 1 (by kernel_rfl))
          refine Does2.value (.slice (some ⟨b2, o2, none⟩) n d) (w' := w9) ?_ ⟨rfl, hS, Below.refl _ _⟩
          clear hS h0 hd
          go_simp
        case refine_6 =>
          intro a' w9 hS h0 hd
          have e5 : a'.tmps[5]?.getD undef = .int .i64 (k : Nat) := evG (h0 5 (by kernel_rfl))
          refine Does2.value (.int .i64 (k : Nat)) (w' := w9) ?_ ⟨rfl, hS, Below.refl _ _⟩
          clear hS h0 hd
          go_simp
        case refine_7 =>
          intro a' w9 hS h0 hd
          have e22 : a'.tmps[22]?.getD undef = .slice (some ⟨b2, o2, none⟩) n d := evG (hd 4 List.mem_cons_self)
          have e23 : a'.tmps[23]?.getD undef = .int .i64 (k : Nat) := evG (hd 5 (List.mem_cons_of_mem _ List.mem_cons_self))
          have hk0 := HKN.out
          refine Does2.value (.pointer (some ⟨b2, o2 + k * 3, none⟩)) (w' := w9) ?_ ⟨rfl, hS, Below.refl _ _⟩
          clear hS h0 hd
          go_simp
        case refine_8 =>
          intro a' w9 hS h0 hd
          have e24 : a'.tmps[24]?.getD undef = .pointer (some ⟨b2, o2 + k * 3, none⟩) := evG (hd 6 List.mem_cons_self)
          have c0 := (hS.cell (cell_lt T0.out)).trans T0.out
          have c1 := (hS.cell (cell_lt T1.out)).trans T1.out
          have c2 := (hS.cell (cell_lt T2.out)).trans T2.out
          refine Does2.value (.agg #[.int .u8 t2, .int .u32 g2, .slice fa2 sn2 fc2]) (w' := w9) ?_ ⟨rfl, hS, Below.refl _ _⟩
          clear hS h0 hd
          go_simp
        case refine_9 =>
          intro a' w9 hS h0 hd
          have e21 : a'.tmps[21]?.getD undef = .agg #[.int .u8 t1, .int .u32 g1, .slice fa1 sn1 fc1] := evG (hd 3 List.mem_cons_self)
          have e25 : a'.tmps[25]?.getD undef = .agg #[.int .u8 t2, .int .u32 g2, .slice fa2 sn2 fc2] := evG (hd 7 (List.mem_cons_of_mem _ List.mem_cons_self))
          refine Does2.call 50 #[.agg #[.int .u8 t1, .int .u32 g1, .slice fa1 sn1 fc1], .agg #[.int .u8 t2, .int .u32 g2, .slice fa2 sn2 fc2]] (w' := w9) ?_ ((HSM.out w9 hS).mono ?_)
          · clear hS h0 hd
            go_simp
          · rintro e w8 ⟨rfl, hb⟩
            exact ⟨_, rfl, rfl, hS.trans (hb.mono hS.size), hb⟩
        case refine_10 =>
          intro a' w9 hS h0 hd
          have e26 : a'.tmps[26]?.getD undef = .bool eqf := evG (hd 8 List.mem_cons_self)
          refine Does2.value (.bool eqf) (w' := w9) ?_ ⟨rfl, hS, Below.refl _ _⟩
          clear hS h0 hd
          go_simp
        case hend =>
          intro f w9 hS hv
          have v6 := hv 9 (by decide)
          replace v6 : f 6 = .bool eqf := v6
          simp only [putAll, Act.put, List.setIfInBounds_toArray, List.set_cons_zero, List.set_cons_succ, v6]
          have HB5 := Lib.hid (HB.out.trans (hS.mono HB.out.size))
          clear hS hv v6 S0 S1 S2 T0 T1 T2
          cases eqf
          · go_wp2_with fail
            go_ret
            exact ⟨ret_bool (decide_eq_false (rnm_no HK1.out HK2.out (fun h => of_decide_eq_false HD.out (rnm_eq.1 h)))).symm, HB5.out⟩
          · have HNE := Lib.hid (rnm_step HNM.out HK1.out HK2.out (rnm_eq.2 (of_decide_eq_true HD.out)))
            go_wp2_with fail
            go_roundw
            case rel => exact ⟨k + 1, by go_num, by omega, HNE.out, HB5.out⟩
            case measure => simp [intOf]; omega
      · obtain rfl : k = n := by omega
        have ht1 : ss.take k = ss := List.take_of_length_le (by rw [HX.out]; exact Nat.le_refl _)
        have ht2 : tt.take k = tt := List.take_of_length_le (by rw [HY.out]; exact Nat.le_refl _)
        have hnn := HNM.out
        rw [ht1, ht2] at hnn
        have HNN := Lib.hid hnn
        clear ht1 ht2 hnn
        go_wp2_with fail
        go_ret
        exact ⟨ret_bool (decide_eq_true HNN.out).symm, HB.out⟩
  · have hne : Hid (ss.map Rc.nm ≠ tt.map Rc.nm) := Lib.hid (fun h => hnm (by have := congrArg List.length h; simp at this; rw [HX.out, HY.out] at this; exact this))
    have hz : ((n : Int) != (m : Int)) = true := bne_iff_ne.2 (by omega)
    clear hnm
    go_wp2_with fail
    go_ret
    exact ⟨ret_bool (decide_eq_false hne.out).symm, Below.refl _ _⟩
end Go.Proofs.Ytmcbbccbonadjaa
/- Groups that a host has, plainly; the variable of a filter. -/
namespace Go.Proofs.Ytmcbbccbonadjaa
set_option linter.unusedVariables false
open Go.RowKit

theorem grp_some {ss : List Sk} (h : okH ss) {g : Int} (hg : g ∈ grp ss) : (wants g ss).1 = true ∨ 0 < (wants g ss).2.length := by
  obtain ⟨s, hs, rfl⟩ := List.mem_map.1 hg
  obtain ⟨hs, he⟩ := List.mem_filter.1 hs
  by_cases h1 : (wants s.g ss).1 = true
  · exact .inl h1
  · refine .inr ?_
    have h1' : (wants s.g ss).1 = false := by simpa using h1
    have hex : s.f.ex = false := by
      have h2 : (flt (ofG s.g ss)).1 = false := h1'
      rw [flt_ex, List.any_eq_false] at h2
      have := h2 s.f (List.mem_map.2 ⟨s, List.mem_filter.2 ⟨hs, by simp⟩, rfl⟩)
      simpa using this
    unfold some' at he
    simp [hex] at he
    obtain ⟨x, hx⟩ : ∃ x, x ∈ s.f.srcs := by
      match hsr : s.f.srcs, he with
      | x :: _, _ => exact ⟨x, List.mem_cons_self ..⟩
    have h3 := wants_any h s.g x
    rw [h1'] at h3
    have h4 : ss.any (fun t => (t.g == s.g) && wf x t.f) = true := List.any_eq_true.2 ⟨s, hs, by simp [wf, hx, hex]⟩
    rw [h4] at h3
    have h5 : x ∈ (wants s.g ss).2 := by simpa using h3
    exact List.length_pos_iff.2 (List.ne_nil_of_mem h5)
def one (ss : List Sk) (g : Int) : Rc := ⟨if (wants g ss).1 then 2 else 1, g, (wants g ss).2, none, 0⟩
theorem tel_one {ss : List Sk} (h : okH ss) {g : Int} (hg : g ∈ grp ss) : tel ss g = [one ss g] := by
  unfold tel one
  rcases grp_some h hg with h1 | h1
  · rw [if_pos h1, if_pos h1]
  · by_cases h2 : (wants g ss).1 = true
    · rw [if_pos h2, if_pos h2]
    · rw [if_neg h2, if_pos h1, if_neg h2]
theorem tell_map {ss : List Sk} (h : okH ss) : ∀ gs : List Int, (∀ g ∈ gs, g ∈ grp ss) → tell ss gs = gs.map (one ss)
  | [], _ => rfl
  | g :: gs, hg => by
    have ih := tell_map h gs fun x hx => hg x (List.mem_cons_of_mem _ hx)
    unfold tell at ih ⊢
    rw [List.flatMap_cons, ih, tel_one h (hg g (List.mem_cons_self ..))]
    rfl
/-- A variable of a filter, somewhere. -/
def FBx (w : World) (B : Nat) : Prop := ∃ b x y z, w.heap[B]? = some (.cells #[.bool b, .slice x y z] 25 (0, 0))
def FTm (w w' : World) : Prop := Below w.heap.size w w' ∨ ∃ B, FBx w B ∧ But1 B w w'
theorem As.ftm {w w' : World} {a : Option Addr} {xs : List Int} (h : As w a xs) (hb : FTm w w') : As w' a xs := by
  refine ⟨?_, h.2⟩
  rcases h.1 with h1 | ⟨b, off, e, hc⟩
  · exact .inl h1
  · refine .inr ⟨b, off, e, fun k hk => ?_⟩
    rcases hb with hb | ⟨B, ⟨b', x, y, z, hx⟩, hb⟩
    · exact (hb.cell (cell_lt (hc k hk))).trans (hc k hk)
    · have hne : b ≠ B := by
        rintro rfl
        have h3 := hc k hk
        obtain ⟨o, ho⟩ : ∃ o, off + k = o := ⟨_, rfl⟩
        rw [ho] at h3
        simp only [World.cell?, hx] at h3
        match o, h3 with
        | 0, h3 => simp at h3
        | 1, h3 => simp at h3
        | o + 2, h3 => simp at h3
      exact (hb.cell (p := ⟨b, off + k, none⟩) (cell_lt (hc k hk)) hne).trans (hc k hk)
theorem FBx.cells {w : World} {B : Nat} {u v : Value} (h : w.heap[B]? = some (.cells #[u, v] 25 (0, 0))) : w.cell? ⟨B, 0, none⟩ = some u ∧ w.cell? ⟨B, 1, none⟩ = some v ∧ w.frozen? ⟨B, 0, none⟩ = false ∧ w.frozen? ⟨B, 1, none⟩ = false := by simp [World.cell?, World.frozen?, h]
theorem FBx.set {w : World} {B : Nat} {u v : Value} (h : w.heap[B]? = some (.cells #[u, v] 25 (0, 0))) (u' v' : Value) : ((w.setCell ⟨B, 0, none⟩ u').setCell ⟨B, 1, none⟩ v').heap[B]? = some (.cells #[u', v'] 25 (0, 0)) := by simp [World.setCell, Array.getElem?_modify, h]
def fR (N J j : Nat) (w w' : World) : Prop := (j = J ∨ Below w.heap.size w w') ∧ FTm w w' ∧ ∀ B, N ≤ B → FBx w B → FBx w' B
theorem fR_below {N J j : Nat} {w w' : World} (h : Below w.heap.size w w') : fR N J j w w' :=
  ⟨.inr h, .inl h, fun B _ ⟨b, x, y, z, e⟩ => ⟨b, x, y, z, (h.block _ (Array.getElem?_eq_some_iff.1 e).1).trans e⟩⟩
theorem fR_refl {N J : Nat} (j : Nat) (w : World) : fR N J j w w := fR_below (Below.refl _ _)
theorem fR_set {N J B : Nat} {w : World} {u v : Value} (h : w.heap[B]? = some (.cells #[u, v] 25 (0, 0))) (hx : FBx w B) (b : Bool) (a : Option Addr) (n c : Nat) : fR N J J w ((w.setCell ⟨B, 0, none⟩ (.bool b)).setCell ⟨B, 1, none⟩ (.slice a n c)) := by
  refine ⟨.inl rfl, .inr ⟨B, hx, (But1.set _ _ _ _).trans (But1.set _ _ _ _)⟩, fun B' _ ⟨b', x, y, z, e⟩ => ?_⟩
  by_cases e2 : B' = B
  · subst e2; exact ⟨_, _, _, _, FBx.set h _ _⟩
  · exact ⟨b', x, y, z, by rw [Below.heap_setCell _ ⟨B, 1, none⟩ _ B' e2, Below.heap_setCell _ ⟨B, 0, none⟩ _ B' e2]; exact e⟩
end Go.Proofs.Ytmcbbccbonadjaa
