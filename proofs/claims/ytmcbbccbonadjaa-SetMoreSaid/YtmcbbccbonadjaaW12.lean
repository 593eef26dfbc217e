/- Drop: a host without a socket. -/
import Derived.Test.YtmcbbccbonadjaaW0
import Derived.Test.YtmcbbccbonadjaaW1
import Derived.Test.YtmcbbccbonadjaaW2
import Derived.Test.YtmcbbccbonadjaaW3
import Derived.Test.YtmcbbccbonadjaaW4
import Derived.Test.YtmcbbccbonadjaaW5
import Derived.Test.YtmcbbccbonadjaaW6
import Derived.Test.YtmcbbccbonadjaaW7
import Derived.Test.YtmcbbccbonadjaaW8
import Derived.Test.YtmcbbccbonadjaaW9
import Derived.Test.YtmcbbccbonadjaaW10
import Derived.Test.YtmcbbccbonadjaaW11
import Derived.BigQuiet
namespace Go.Proofs.Ytmcbbccbonadjaa
set_option linter.unusedVariables false
open Go.RowKit

/-- How dropping a socket goes, the host behind it, and what is said. -/
def dropL (ss : List Sk) (id : Int) : List Sk := lt' id ss ++ gt' id ss
def dropE (ss : List Sk) (id : Int) : Int := match ss.find? (fun t => t.id == id) with | some _ => 0 | none => 8
def dropH (ss : List Sk) (id : Int) : List Sk := match ss.find? (fun t => t.id == id) with | some _ => dropL ss id | none => ss
def dropS (ss : List Sk) (id : Int) : List Rc := match ss.find? (fun t => t.id == id) with | some t => change t.g (wants t.g ss).1 (wants t.g ss).2 (wants t.g (dropL ss id)).1 (wants t.g (dropL ss id)).2 | none => []
theorem drop_no {ss : List Sk} {id : Int} (h : ∀ t ∈ ss, t.id ≠ id) : dropE ss id = 8 ∧ dropH ss id = ss ∧ dropS ss id = [] := by
  have e : ss.find? (fun t => t.id == id) = none := by rw [List.find?_eq_none]; intro t ht; simpa using h t ht
  unfold dropE dropH dropS
  rw [e]
  exact ⟨rfl, rfl, rfl⟩
theorem find_id {ss : List Sk} {id : Int} (hr : Ris ss) {t : Sk} (ht : t ∈ ss) (h : t.id = id) : ss.find? (fun t => t.id == id) = some t := by
  cases hf : ss.find? (fun t => t.id == id) with
  | none => rw [List.find?_eq_none] at hf; have := hf t ht; simp at this; exact absurd h this
  | some u =>
    have h1 := List.find?_some hf
    have h2 := List.mem_of_find?_eq_some hf
    simp at h1
    rw [ris_inj hr ht h2 (by omega)]
theorem drop_yes {ss : List Sk} {id : Int} (hr : Ris ss) {t : Sk} (ht : t ∈ ss) (h : t.id = id) : dropE ss id = 0 ∧ dropH ss id = dropL ss id ∧ dropS ss id = change t.g (wants t.g ss).1 (wants t.g ss).2 (wants t.g (dropL ss id)).1 (wants t.g (dropL ss id)).2 := by
  have e := find_id hr ht h
  unfold dropE dropH dropS
  rw [e]
  exact ⟨rfl, rfl, rfl⟩
theorem dropL_few {ss : List Sk} {id : Int} (h : FewS ss) : FewS (dropL ss id) := by
  refine ⟨?_, fun t ht => ?_⟩
  · unfold dropL lt' gt'
    rw [List.length_append, ← List.countP_eq_length_filter, ← List.countP_eq_length_filter]
    have h1 : ∀ ss : List Sk, ss.countP (fun s => decide (s.id < id)) + ss.countP (fun s => decide (id < s.id)) ≤ ss.length := by
      intro ss
      induction ss with
      | nil => simp
      | cons x r ih =>
        simp only [List.countP_cons, List.length_cons]
        by_cases h1 : x.id < id
        · have h2 : ¬ id < x.id := by omega
          simp [h1, h2]; omega
        · by_cases h2 : id < x.id
          · simp [h1, h2]; omega
          · simp [h1, h2]; omega
    have := h1 ss
    have := h.1
    omega
  · rcases List.mem_append.1 ht with h1 | h1
    · exact h.2 t (List.mem_filter.1 h1).1
    · exact h.2 t (List.mem_filter.1 h1).1
def dpV (N k : Nat) (b off n c : Nat) (g : Int) (hs : List Sk) (R : List Rc) : Nat → Value → List Value → World → Prop
  | 0, v, _, _ => v = .agg #[.slice (some ⟨b, off, none⟩) n c]
  | 1, v, _, _ => v = .int .i64 (k : Nat)
  | 2, v, _, _ => v = .int .i64 ((k : Int) + 1)
  | 3, v, _, _ => v = .pointer (some ⟨N, 0, none⟩)
  | 4, v, _, _ => v = .slice (some ⟨b, off, none⟩) n c
  | 5, v, _, _ => v = .int .i64 (k : Nat)
  | 6, v, _, _ => v = .pointer (some ⟨b, off + k * 4, none⟩)
  | 7, v, _, _ => v = .pointer (some ⟨b, off + k * 4 + 1, none⟩)
  | 8, v, _, _ => v = .int .u32 g
  | 9, v, _, w => ∃ (a31 : Option Addr) (c31 : Nat) (ss31 : List Sk) (b31 : Option Addr) (d31 : Nat) (rs31 : List Rc), v = .tuple #[.agg #[.slice a31 (List.length ss31) c31], .slice b31 (List.length rs31) d31, .int .i64 0] ∧ (ss31.map Sk.nm = hs.map Sk.nm ∧ Sks w a31 ss31 ∧ Flat a31 ss31.length c31 ∧ ss31.length ≤ c31) ∧ (rs31.map Rc.nm = R.map Rc.nm ∧ Rcs w b31 rs31 ∧ (b31 = none → d31 = 0))
  | 10, v, us, w => ∃ a32 n32 c32 y z, v = .agg #[.slice a32 n32 c32] ∧ us = [.tuple #[v, y, z]]
  | 11, v, us, w => ∃ x z, us = [.tuple #[x, v, z]]
  | 12, v, us, w => ∃ x y, us = [.tuple #[x, y, v]]
  | 13, v, us, w => ∃ a32 n32 c32, us = [.agg #[.slice a32 n32 c32]] ∧ w.heap[N + 1]? = some (.cells #[.slice a32 n32 c32] 36 (0, 0))
  | 14, v, us, w => us = [v]
  | 15, v, us, w => us = [v]
  | _, _, _, _ => True
def dpD : Nat → List Nat
  | 4 => [3]
  | 6 => [4, 5]
  | 7 => [6]
  | 8 => [7]
  | 9 => [0, 1, 2, 8]
  | 10 => [9]
  | 11 => [9]
  | 12 => [9]
  | 13 => [10]
  | 14 => [11]
  | 15 => [12]
  | _ => []
theorem dp_st (N k : Nat) (b off n c : Nat) (g : Int) (hs : List Sk) (R : List Rc) {i : Nat} {v : Value} {us : List Value} {w w' : World} {j : Nat} (hne : i ≠ j) (hr : hR 0 13 j w w') (hv : dpV N k b off n c g hs R i v us w) : dpV N k b off n c g hs R i v us w' := by
  unfold dpV at hv ⊢
  split at hv
  all_goals first
    | exact hv
    | (obtain ⟨a31, c31, ss31, b31, d31, rs31, e, h31, k31⟩ := hv; exact ⟨a31, c31, ss31, b31, d31, rs31, e, ⟨h31.1, h31.2.1.tm hr.2.1.tm, h31.2.2⟩, ⟨k31.1, k31.2.1.tm hr.2.1.tm, k31.2.2⟩⟩)
    | (obtain ⟨a32, n32, c32, h1, h2⟩ := hv; rcases hr.1 with e | e; exact absurd e.symm hne; exact ⟨a32, n32, c32, h1, (e.block _ (Array.getElem?_eq_some_iff.1 h2).1).trans h2⟩)
set_option maxRecDepth 100000 in
set_option maxHeartbeats 16000000 in
theorem hDrop (a : Option Addr) (n c : Nat) (ss : List Sk) (id : Int) (w : World) (hx : ss.length = n) (hn : n ≤ 399) (hnc : n ≤ c) (hni : a = none → c = 0) (hri : Ris ss) (hfew : FewS ss) (hS : Sks w a ss) :
    Calls Try.prog 21 #[.agg #[.slice a n c], .int .i64 id] w fun e w' => OutP w e w' (dropH ss id) (dropS ss id) (dropE ss id) := by
  have HX := Lib.hid hx
  have HNC := Lib.hid hnc
  have HNI := Lib.hid hni
  have HRI := Lib.hid hri
  have HFW := Lib.hid hfew
  have HAL : Hid (ss.length ≤ 100000 ∧ ∀ s ∈ ss, s.f.srcs.length ≤ 100000) := Lib.hid ⟨by omega, fun s hs => by have := hfew.2 s hs; omega⟩
  have hb2 := bel2 w (.cells #[.slice a n c] 36) (.cells #[.slice none 0 0] 36)
  have p0 := host_new w (.slice a n c)
  have hbx := Go.Deep.blk_alloc_new (w.alloc (.cells #[.slice a n c] 36)) (.cells #[.slice none 0 0] 36)
  rw [World.size_alloc] at hbx
  have CH := Lib.hid ((((bel1 (w.alloc (.cells #[.slice a n c] 36)) (.cells #[.slice none 0 0] 36)).cell (cell_lt p0)).trans p0))
  have HBX := Lib.hid hbx
  have HW1 := Lib.hid hb2
  have HSK := Lib.hid (hS.below hb2)
  have HS1 : Hid (((w.alloc (.cells #[.slice a n c] 36)).alloc (.cells #[.slice none 0 0] 36)).heap.size = w.heap.size + 2) := Lib.hid (by simp)
  clear hx hnc hni hri hfew hS hb2 p0 hbx
  go_enter Try.func21, Try.ntmps21
  have c0 := CH.out
  go_wp2_with fail
  generalize (w.alloc (.cells #[.slice a n c] 36)).alloc (.cells #[.slice none 0 0] 36) = w1 at *
  refine (hPlace a n c ss id w1 HX.out (by omega) HRI.out HSK.out).mono ?_
  rintro e w2 ⟨k, l, rfl, hpl, hb⟩
  have CH := Lib.hid ((hb.cell (cell_lt c0)).trans c0)
  have HBX := Lib.hid ((hb.block _ (Array.getElem?_eq_some_iff.1 HBX.out).1).trans HBX.out)
  have HSK := Lib.hid (HSK.out.below hb)
  have HW2 := Lib.hid (HW1.out.trans (hb.mono HW1.out.size))
  have HB12 := Lib.hid hb
  have HPL := Lib.hid hpl
  have hkl := hpl.1
  have hln := hpl.2.1
  rw [HX.out] at hln
  clear hb hpl c0
  rcases HPL.out.2.2.2.2 with ⟨rfl, hno⟩ | ⟨rfl, u, hu, hid⟩
  · have HDN := Lib.hid (drop_no hno)
    have hnew : ((l : Int) == (l : Int)) = true := by simp
    have c0 := CH.out
    clear hno
    go_wp2_with fail
    have hb4 := bel1 w2 (.cells #[.slice a n c] 34)
    have hr1 := rws1 (w := w2) (r0 := (ss, a, c)) ⟨HSK.out, HNI.out⟩
    simp only [HX.out] at hr1
    have hj := hJoined (some ⟨w2.heap.size, 0, none⟩) 1 1 [(ss, a, c)] _ rfl (by omega) (by simpa [alls] using HAL.out.1) (by simpa [alls] using HAL.out.2) hr1
    rw [show alls [(ss, a, c)] = ss by simp [alls]] at hj
    refine hj.mono ?_
    clear hj hr1
    rintro e w5 ⟨⟨a5, c5, ss5, rfl, h51, h52, h53, h54⟩, hb5⟩
    have HB5 := Lib.hid (hb4.trans (hb5.mono hb4.size))
    have HBX5 := Lib.hid ((HB5.out.block _ (Array.getElem?_eq_some_iff.1 HBX.out).1).trans HBX.out)
    have HH5 := Lib.hid (show ss5.map Sk.nm = ss.map Sk.nm ∧ Sks w5 a5 ss5 ∧ Flat a5 ss5.length c5 ∧ ss5.length ≤ c5 from ⟨h51, h52, h53, h54⟩)
    clear hb4 hb5 h51 h52 h53 h54 c0
    obtain ⟨⟨r0, r1⟩, hl2, htm, hb9, -⟩ := fin_host HBX5.out (show Below (w.heap.size + 1) w1 w5 from (HB12.out.trans (HB5.out.mono HB12.out.size)).mono (by have := HS1.out; omega)) a5 ss5.length c5
    have HL2 := Lib.hid hl2
    have HTM := Lib.hid htm
    have HB9 := Lib.hid (HW1.out.trans (hb9.mono (by omega)))
    clear hl2 htm hb9
    go_wp2_with fail
    refine ret_cell3 (p := 4) (u := 5) (v := 6) rfl rfl rfl HL2.out ?_
    rw [HDN.out.1, HDN.out.2.1, HDN.out.2.2]
    exact ⟨⟨a5, c5, ss5, none, 0, [], rfl, ⟨HH5.out.1, HH5.out.2.1.tm HTM.out, HH5.out.2.2⟩, rfl, Rcs.nil _ _, fun _ => rfl⟩, HB9.out⟩
  · have HDY := Lib.hid (drop_yes HRI.out (List.mem_of_getElem? hu) hid)
    obtain ⟨b, off, rfl, hc⟩ := HSK.out.at (k := k) (by rw [HX.out]; omega)
    obtain ⟨g, hg⟩ : ∃ g, u.g = g := ⟨_, rfl⟩
    rw [hg] at HDY
    have tg := (hc k u hu).1.2.1
    have t0 := (hc k u hu).1.1
    rw [hg] at tg
    have TG := Lib.hid tg
    have HTN : Hid (b ≠ w.heap.size + 1) := Lib.hid (by
      rintro rfl
      exact ((hbx_of HBX.out).num _ _ t0).1 _ _ rfl)
    have HKN : Hid (k < n) := Lib.hid (by omega)
    have hnew : ((k : Int) == (k : Int) + 1) = false := beq_eq_false_iff_ne.2 (by omega)
    have hpl2 : ss.take k ++ ([] : List Sk) ++ ss.drop (k + 1) = dropL ss id := by rw [HPL.out.2.2.1, HPL.out.2.2.2.1, List.append_nil]; rfl
    have hrp := fun (W : World) (hW : Tm w2 W) => hReplaced (some ⟨b, off, none⟩) n c k (k + 1) g none 0 0 ss [] W HX.out HNC.out HNI.out (by omega) (by omega) rfl (fun _ => rfl) HFW.out (by rw [hpl2]; exact dropL_few HFW.out) (HSK.out.tm hW) (.inl rfl)
    simp only [hpl2, show ((k + 1 : Nat) : Int) = (k : Int) + 1 from by omega] at hrp
    have HRP := Lib.hid hrp
    clear hc hg tg t0 hpl2 hrp hu hid
    go_wp2_with fail
    refine wp_region_each3 (dpV w.heap.size k b off n c g (dropL ss id) (change g (wants g ss).1 (wants g ss).2 (wants g (dropL ss id)).1 (wants g (dropL ss id)).2)) (fun W => But1 (w.heap.size + 1) w2 W ∧ HBx W (w.heap.size + 1)) (hR 0 13) dpD [22, 23, 24, 25, 26, 27, 28, 29, 30, 31, 32, 33, 34, 5, 6] (by kernel_rfl) (by kernel_rfl) (by kernel_rfl) ⟨But1.drewN (But1.refl _ w2) 1, hbx_of HBX.out⟩
      (fun i j oi oj v us A B hoi hoj hij hw hSA hr hv => dp_st _ _ _ _ _ _ _ _ _ hij hr hv) ?hgd
      ⟨?_, ?_, ?_, ?_, ?_, ?_, ?_, ?_, ?_, ?_, ?_, ?_, ?_, ?_, ?_, ?_, trivial⟩ ?hend
    case hgd =>
      intro i o g b hoi hog v us w hv
      have hi : i < 16 := (Array.getElem?_eq_some_iff.1 hoi).1
      have hc : i = 0 ∨ i = 1 ∨ i = 2 ∨ i = 3 ∨ i = 4 ∨ i = 5 ∨ i = 6 ∨ i = 7 ∨ i = 8 ∨ i = 9 ∨ i = 10 ∨ i = 11 ∨ i = 12 ∨ i = 13 ∨ i = 14 ∨ i = 15 := by omega
      rcases hc with rfl | rfl | rfl | rfl | rfl | rfl | rfl | rfl | rfl | rfl | rfl | rfl | rfl | rfl | rfl | rfl
      · cases hoi; cases hog
      · cases hoi; cases hog
      · cases hoi; cases hog
      · cases hoi; cases hog
      · cases hoi; cases hog
      · cases hoi; cases hog
      · cases hoi; cases hog
      · cases hoi; cases hog
      · cases hoi; cases hog
      · cases hoi; cases hog
      · cases hoi; cases hog
      · cases hoi; cases hog
      · cases hoi; cases hog
      · cases hoi; cases hog
      · cases hoi; cases hog
      · cases hoi; cases hog
    case refine_1 =>
      intro a' w9 hS h0 hd
      have e2 : a'.tmps[2]?.getD undef = .pointer (some ⟨w.heap.size, 0, none⟩) := evG (h0 2 (by kernel_rfl))
      have c0 := (hS.1.cell (cell_lt CH.out) (by show w.heap.size ≠ _; omega)).trans CH.out
      refine Does2.value (.agg #[.slice (some ⟨b, off, none⟩) n c]) (w' := w9) ?_ ⟨rfl, hS, hR_refl _ _⟩
      clear hS h0 hd
      go_simp
    case refine_2 =>
      intro a' w9 hS h0 hd
      have e7 : a'.tmps[7]?.getD undef = .int .i64 (k : Nat) := evG (h0 7 (by kernel_rfl))
      refine Does2.value (.int .i64 (k : Nat)) (w' := w9) ?_ ⟨rfl, hS, hR_refl _ _⟩
      clear hS h0 hd
      go_simp
    case refine_3 =>
      intro a' w9 hS h0 hd
      have e8 : a'.tmps[8]?.getD undef = .int .i64 ((k : Int) + 1) := evG (h0 8 (by kernel_rfl))
      refine Does2.value (.int .i64 ((k : Int) + 1)) (w' := w9) ?_ ⟨rfl, hS, hR_refl _ _⟩
      clear hS h0 hd
      go_simp
    case refine_4 =>
      intro a' w9 hS h0 hd
      have e2 : a'.tmps[2]?.getD undef = .pointer (some ⟨w.heap.size, 0, none⟩) := evG (h0 2 (by kernel_rfl))
      refine Does2.value (.pointer (some ⟨w.heap.size, 0, none⟩)) (w' := w9) ?_ ⟨rfl, hS, hR_refl _ _⟩
      clear hS h0 hd
      go_simp
    case refine_5 =>
      intro a' w9 hS h0 hd
      have e25 : a'.tmps[25]?.getD undef = .pointer (some ⟨w.heap.size, 0, none⟩) := evG (hd 3 List.mem_cons_self)
      have c0 := (hS.1.cell (cell_lt CH.out) (by show w.heap.size ≠ _; omega)).trans CH.out
      refine Does2.value (.slice (some ⟨b, off, none⟩) n c) (w' := w9) ?_ ⟨rfl, hS, hR_refl _ _⟩
      clear hS h0 hd
      go_simp
    case refine_6 =>
      intro a' w9 hS h0 hd
      have e7 : a'.tmps[7]?.getD undef = .int .i64 (k : Nat) := evG (h0 7 (by kernel_rfl))
      refine Does2.value (.int .i64 (k : Nat)) (w' := w9) ?_ ⟨rfl, hS, hR_refl _ _⟩
      clear hS h0 hd
      go_simp
    case refine_7 =>
      intro a' w9 hS h0 hd
      have e26 : a'.tmps[26]?.getD undef = .slice (some ⟨b, off, none⟩) n c := evG (hd 4 List.mem_cons_self)
      have e27 : a'.tmps[27]?.getD undef = .int .i64 (k : Nat) := evG (hd 5 (List.mem_cons_of_mem _ List.mem_cons_self))
      have hk0 := HKN.out
      refine Does2.value (.pointer (some ⟨b, off + k * 4, none⟩)) (w' := w9) ?_ ⟨rfl, hS, hR_refl _ _⟩
      clear hS h0 hd
      go_simp
    case refine_8 =>
      intro a' w9 hS h0 hd
      have e28 : a'.tmps[28]?.getD undef = .pointer (some ⟨b, off + k * 4, none⟩) := evG (hd 6 List.mem_cons_self)
      refine Does2.value (.pointer (some ⟨b, off + k * 4 + 1, none⟩)) (w' := w9) ?_ ⟨rfl, hS, hR_refl _ _⟩
      clear hS h0 hd
      go_simp
    case refine_9 =>
      intro a' w9 hS h0 hd
      have e29 : a'.tmps[29]?.getD undef = .pointer (some ⟨b, off + k * 4 + 1, none⟩) := evG (hd 7 List.mem_cons_self)
      have c0 := (hS.1.cell (cell_lt TG.out) HTN.out).trans TG.out
      refine Does2.value (.int .u32 g) (w' := w9) ?_ ⟨rfl, hS, hR_refl _ _⟩
      clear hS h0 hd
      go_simp
    case refine_10 =>
      intro a' w9 hS h0 hd
      have e22 : a'.tmps[22]?.getD undef = .agg #[.slice (some ⟨b, off, none⟩) n c] := evG (hd 0 List.mem_cons_self)
      have e23 : a'.tmps[23]?.getD undef = .int .i64 (k : Nat) := evG (hd 1 (List.mem_cons_of_mem _ List.mem_cons_self))
      have e24 : a'.tmps[24]?.getD undef = .int .i64 ((k : Int) + 1) := evG (hd 2 (List.mem_cons_of_mem _ (List.mem_cons_of_mem _ List.mem_cons_self)))
      have e30 : a'.tmps[30]?.getD undef = .int .u32 g := evG (hd 8 (List.mem_cons_of_mem _ (List.mem_cons_of_mem _ (List.mem_cons_of_mem _ List.mem_cons_self))))
      refine Does2.call 49 #[.agg #[.slice (some ⟨b, off, none⟩) n c], .int .i64 (k : Nat), .int .i64 ((k : Int) + 1), .int .u32 g, .slice none 0 0] (w' := w9) ?_ ((HRP.out w9 (hbut HBX.out hS.1)).mono ?_)
      · clear hS h0 hd
        go_simp
      · rintro e w8 ⟨⟨a8, c8, ss8, b8, d8, rs8, rfl, h8, k8⟩, hb8⟩
        exact ⟨_, rfl, ⟨a8, c8, ss8, b8, d8, rs8, rfl, h8, k8⟩, ⟨hS.1.trans (But1.of_below hb8), hboxB hb8 hS.2⟩, hR_below hb8⟩
    case refine_11 =>
      intro a' w9 hS h0 hd
      obtain ⟨a31, c31, ss31, b31, d31, rs31, e31, h31, k31⟩ := hd 9 List.mem_cons_self
      replace e31 := evG e31
      have q5 : a'.eval (.tmp 31) = .tuple #[.agg #[.slice a31 (List.length ss31) c31], .slice b31 (List.length rs31) d31, .int .i64 0] := by simp [Act.eval, e31]
      refine Does2.value (.agg #[.slice a31 (List.length ss31) c31]) (w' := w9) ?_ ⟨⟨a31, _, c31, .slice b31 (List.length rs31) d31, .int .i64 0, rfl, ?_⟩, hS, hR_refl _ _⟩
      · clear hS h0 hd h31 k31 q5
        go_simp
      · show [a'.eval (.tmp 31)] = _
        rw [q5]
        rfl
    case refine_12 =>
      intro a' w9 hS h0 hd
      obtain ⟨a31, c31, ss31, b31, d31, rs31, e31, h31, k31⟩ := hd 9 List.mem_cons_self
      replace e31 := evG e31
      have q5 : a'.eval (.tmp 31) = .tuple #[.agg #[.slice a31 (List.length ss31) c31], .slice b31 (List.length rs31) d31, .int .i64 0] := by simp [Act.eval, e31]
      refine Does2.value (.slice b31 (List.length rs31) d31) (w' := w9) ?_ ⟨⟨.agg #[.slice a31 (List.length ss31) c31], .int .i64 0, ?_⟩, hS, hR_refl _ _⟩
      · clear hS h0 hd h31 k31 q5
        go_simp
      · show [a'.eval (.tmp 31)] = _
        rw [q5]
        rfl
    case refine_13 =>
      intro a' w9 hS h0 hd
      obtain ⟨a31, c31, ss31, b31, d31, rs31, e31, h31, k31⟩ := hd 9 List.mem_cons_self
      replace e31 := evG e31
      have q5 : a'.eval (.tmp 31) = .tuple #[.agg #[.slice a31 (List.length ss31) c31], .slice b31 (List.length rs31) d31, .int .i64 0] := by simp [Act.eval, e31]
      refine Does2.value (.int .i64 0) (w' := w9) ?_ ⟨⟨.agg #[.slice a31 (List.length ss31) c31], .slice b31 (List.length rs31) d31, ?_⟩, hS, hR_refl _ _⟩
      · clear hS h0 hd h31 k31 q5
        go_simp
      · show [a'.eval (.tmp 31)] = _
        rw [q5]
        rfl
    case refine_14 =>
      intro a' w9 hS h0 hd
      have e4 : a'.tmps[4]?.getD undef = .pointer (some ⟨w.heap.size + 1, 0, none⟩) := evG (h0 4 (by kernel_rfl))
      obtain ⟨a32, n32, c32, y32, z32, q32, -⟩ := hd 10 List.mem_cons_self
      have e32 := evG q32
      obtain ⟨x, y, z, hbx⟩ := hS.2
      have hc := HBx.cell hbx
      have hf := HBx.froz hbx
      refine Does2.skip (w' := w9.setCell ⟨w.heap.size + 1, 0, none⟩ (.slice a32 n32 c32)) ?_ ⟨⟨a32, n32, c32, ?_, HBx.set hbx _⟩, ⟨hS.1.trans (But1.set _ _ _ _), ⟨_, _, _, HBx.set hbx _⟩⟩, hR_set hbx ⟨x, y, z, hbx⟩ _ _ _⟩
      · clear hS h0 hd hbx q32
        go_simp
      · show [a'.eval (.tmp 32)] = _
        rw [show a'.eval (.tmp 32) = _ from q32]
    case refine_15 =>
      intro a' w9 hS h0 hd
      obtain ⟨v33, q33⟩ : ∃ v, a'.eval (.tmp 33) = v := ⟨_, rfl⟩
      have e33 := evG q33
      refine Does2.value v33 (w' := w9) ?_ ⟨?_, hS, hR_refl _ _⟩
      · clear hS h0 hd q33
        go_simp
      · show [a'.eval (.tmp 33)] = [v33]
        rw [q33]
    case refine_16 =>
      intro a' w9 hS h0 hd
      obtain ⟨v34, q34⟩ : ∃ v, a'.eval (.tmp 34) = v := ⟨_, rfl⟩
      have e34 := evG q34
      refine Does2.value v34 (w' := w9) ?_ ⟨?_, hS, hR_refl _ _⟩
      · clear hS h0 hd q34
        go_simp
      · show [a'.eval (.tmp 34)] = [v34]
        rw [q34]
    case hend =>
      intro f w3 hS hv
      obtain ⟨a31, c31, ss31, b31, d31, rs31, v31, h31, k31⟩ := hv 9 (by decide)
      replace v31 : f 31 = .tuple #[.agg #[.slice a31 (List.length ss31) c31], .slice b31 (List.length rs31) d31, .int .i64 0] := v31
      obtain ⟨_, _, _, y1, z1, -, u1⟩ := hv 10 (by decide)
      replace u1 : [f 31] = [.tuple #[f 32, y1, z1]] := u1
      obtain ⟨x2, z2, u2⟩ := hv 11 (by decide)
      replace u2 : [f 31] = [.tuple #[x2, f 33, z2]] := u2
      obtain ⟨x3, y3, u3⟩ := hv 12 (by decide)
      replace u3 : [f 31] = [.tuple #[x3, y3, f 34]] := u3
      rw [v31] at u1 u2 u3
      simp only [List.cons.injEq, Value.tuple.injEq, Array.mk.injEq, and_true] at u1 u2 u3
      obtain ⟨a32, n32, c32, u4, h32⟩ := hv 13 (by decide)
      replace u4 : [f 32] = [.agg #[.slice a32 n32 c32]] := u4
      rw [← u1.1] at u4
      simp only [List.cons.injEq, Value.agg.injEq, Array.mk.injEq, Value.slice.injEq, and_true] at u4
      obtain ⟨rfl, rfl, rfl⟩ := u4
      have u5 : [f 33] = [f 5] := hv 14 (by decide)
      have u6 : [f 34] = [f 6] := hv 15 (by decide)
      simp only [List.cons.injEq, and_true] at u5 u6
      have v5 : f 5 = .slice b31 (List.length rs31) d31 := by rw [← u5, ← u2.2.1]
      have v6 : f 6 = .int .i64 0 := by rw [← u6, ← u3.2.2]
      simp only [putAll, Act.put, List.setIfInBounds_toArray, List.set_cons_zero, List.set_cons_succ, v5, v6]
      replace h32 : w3.heap[w.heap.size + 1]? = some (.cells #[.slice a31 (List.length ss31) c31] 36 (0, 0)) := h32
      have HL := Lib.hid (load_host h32)
      have H31 := Lib.hid h31
      have K31 := Lib.hid k31
      have HB3 := Lib.hid (HW2.out.trans (hS.1.below (by omega) (by have := HW2.out.size; omega)))
      clear hv hS v31 u1 u2 u3 u5 u6 v5 v6 h32 h31 k31
      go_wp2_with fail
      refine ret_cell3 (p := 4) (u := 5) (v := 6) rfl rfl rfl HL.out ?_
      rw [HDY.out.1, HDY.out.2.1, HDY.out.2.2]
      exact ⟨⟨a31, c31, ss31, b31, d31, rs31, rfl, H31.out, K31.out⟩, HB3.out⟩
end Go.Proofs.Ytmcbbccbonadjaa
/- The document's Same, of filters and of hosts. -/
namespace Go.Proofs.Ytmcbbccbonadjaa
set_option linter.unusedVariables false
open Go.RowKit

set_option maxRecDepth 100000 in
set_option maxHeartbeats 1000000 in
theorem rSameG (e1 e2 : Bool) (a b : Option Addr) (n m c d : Nat) (xs ys : List Int) (w : World) (hx : xs.length = n) (hy : ys.length = m) (hm : n ≤ 1000000000) (h1 : As w a xs) (h2 : As w b ys) :
    Calls Try.prog 31 #[.agg #[.bool e1, .slice a n c], .agg #[.bool e2, .slice b m d]] w fun e w' => e = .returned (.bool (decide (e1 = e2 ∧ xs = ys))) ∧ Below w.heap.size w w' := by
  by_cases he : e1 = e2
  · have h := rSameF e1 e2 a b n m c d xs ys w hx hy hm h1 h2 he
    rw [decide_eq_decide.2 (show (e1 = e2 ∧ xs = ys) ↔ xs = ys from ⟨fun h => h.2, fun h => ⟨he, h⟩⟩)]
    exact h
  · rw [decide_eq_false (fun h => he h.1)]
    have he2 : (e1 == e2) = false := by simpa using he
    clear hx hy h1 h2
    go_enter Try.func31, Try.ntmps31
    cases e1 <;> cases e2
    all_goals first
      | (exfalso; exact he rfl)
      | (go_wp2_with fail
         go_ret
         exact ⟨rfl, bel2 w _ _⟩)
theorem nm_eq {s t : Sk} : s.nm = t.nm ↔ (s.f.ex = t.f.ex ∧ s.f.srcs = t.f.srcs) ∧ s.id = t.id ∧ s.g = t.g := by
  obtain ⟨i, g, ⟨e, l, a, c⟩⟩ := s
  obtain ⟨j, h, ⟨f, m, b, d⟩⟩ := t
  simp only [Sk.nm, Flt.nm, Sk.mk.injEq, Flt.mk.injEq, and_true]
  constructor
  · rintro ⟨h1, h2, h3, h4⟩; exact ⟨⟨h3, h4⟩, h1, h2⟩
  · rintro ⟨⟨h1, h2⟩, h3, h4⟩; exact ⟨h3, h4, h1, h2⟩
theorem nm_step {ss tt : List Sk} {k : Nat} {s t : Sk} (h : (ss.take k).map Sk.nm = (tt.take k).map Sk.nm) (hs : ss[k]? = some s) (ht : tt[k]? = some t) (e : s.nm = t.nm) : (ss.take (k + 1)).map Sk.nm = (tt.take (k + 1)).map Sk.nm := by
  rw [takeS hs, takeS ht, List.map_append, List.map_append, h]; simp [e]
theorem nm_no {ss tt : List Sk} {k : Nat} {s t : Sk} (hs : ss[k]? = some s) (ht : tt[k]? = some t) (e : s.nm ≠ t.nm) : ss.map Sk.nm ≠ tt.map Sk.nm := by
  intro h
  have := congrArg (fun l : List Sk => l[k]?) h
  simp [hs, ht] at this
  exact e this
instance : DecidableEq Flt := fun f g => decidable_of_iff (f.ex = g.ex ∧ f.srcs = g.srcs ∧ f.a = g.a ∧ f.c = g.c) ⟨fun ⟨h1, h2, h3, h4⟩ => by cases f; cases g; simp_all, fun h => by subst h; exact ⟨rfl, rfl, rfl, rfl⟩⟩
instance : DecidableEq Sk := fun f g => decidable_of_iff (f.id = g.id ∧ f.g = g.g ∧ f.f = g.f) ⟨fun ⟨h1, h2, h3⟩ => by cases f; cases g; simp_all, fun h => by subst h; exact ⟨rfl, rfl, rfl⟩⟩
def smV (N b1 o1 b2 o2 n c d k : Nat) (ex1 ex2 : Bool) (fa1 fa2 : Option Addr) (sn1 fc1 sn2 fc2 : Nat) (eqf : Bool) : Nat → Value → List Value → World → Prop
  | 0, v, _, _ => v = .pointer (some ⟨N, 0, none⟩)
  | 1, v, _, _ => v = .slice (some ⟨b1, o1, none⟩) n c
  | 2, v, _, _ => v = .int .i64 (k : Nat)
  | 3, v, _, _ => v = .pointer (some ⟨b1, o1 + k * 4, none⟩)
  | 4, v, _, _ => v = .pointer (some ⟨b1, o1 + k * 4 + 2, none⟩)
  | 5, v, _, _ => v = .agg #[.bool ex1, .slice fa1 sn1 fc1]
  | 6, v, _, _ => v = .pointer (some ⟨N + 1, 0, none⟩)
  | 7, v, _, _ => v = .slice (some ⟨b2, o2, none⟩) n d
  | 8, v, _, _ => v = .int .i64 (k : Nat)
  | 9, v, _, _ => v = .pointer (some ⟨b2, o2 + k * 4, none⟩)
  | 10, v, _, _ => v = .pointer (some ⟨b2, o2 + k * 4 + 2, none⟩)
  | 11, v, _, _ => v = .agg #[.bool ex2, .slice fa2 sn2 fc2]
  | 12, v, _, _ => v = .bool eqf
  | 13, v, _, _ => v = .bool eqf
  | _, _, _, _ => True
def smD : Nat → List Nat
  | 1 => [0]
  | 3 => [1, 2]
  | 4 => [3]
  | 5 => [4]
  | 7 => [6]
  | 9 => [7, 8]
  | 10 => [9]
  | 11 => [10]
  | 12 => [5, 11]
  | 13 => [12]
  | _ => []
theorem sm_st (N b1 o1 b2 o2 n c d k : Nat) (ex1 ex2 : Bool) (fa1 fa2 : Option Addr) (sn1 fc1 sn2 fc2 : Nat) (eqf : Bool) {i : Nat} {v : Value} {us : List Value} {w w' : World}  (hr : True) (hv : smV N b1 o1 b2 o2 n c d k ex1 ex2 fa1 fa2 sn1 fc1 sn2 fc2 eqf i v us w) : smV N b1 o1 b2 o2 n c d k ex1 ex2 fa1 fa2 sn1 fc1 sn2 fc2 eqf i v us w' := by
  unfold smV at hv ⊢
  split at hv
  all_goals first
    | exact hv
set_option maxRecDepth 100000 in
set_option maxHeartbeats 8000000 in
theorem rSameH (a b : Option Addr) (n m c d : Nat) (ss tt : List Sk) (w : World) (hx : ss.length = n) (hy : tt.length = m) (hn : n ≤ 1125899906842624) (hm : m ≤ 1125899906842624) (hl : ∀ s ∈ ss, s.f.srcs.length ≤ 1000000000) (hl2 : ∀ s ∈ tt, s.f.srcs.length ≤ 1000000000) (h1 : Sks w a ss) (h2 : Sks w b tt) :
    Calls Try.prog 23 #[.agg #[.slice a n c], .agg #[.slice b m d]] w fun e w' => e = .returned (.bool (decide (ss.map Sk.nm = tt.map Sk.nm))) ∧ Below w.heap.size w w' := by
  have HX := Lib.hid hx
  have HY := Lib.hid hy
  have HL1 := Lib.hid hl
  have HL2 := Lib.hid hl2
  have hb2 := bel2 w (.cells #[.slice a n c] 36) (.cells #[.slice b m d] 36)
  have p0 := host_new w (.slice a n c)
  have p1 := host_new (w.alloc (.cells #[.slice a n c] 36)) (.slice b m d)
  rw [World.size_alloc] at p1
  have CI := Lib.hid (((bel1 (w.alloc (.cells #[.slice a n c] 36)) (.cells #[.slice b m d] 36)).cell (cell_lt p0)).trans p0)
  have CJ := Lib.hid p1
  have HB0 := Lib.hid hb2
  have H1 := Lib.hid h1
  have H2 := Lib.hid h2
  clear hx hy hl hl2 h1 h2 hb2 p0 p1
  go_enter Try.func23, Try.ntmps23
  by_cases hnm : n = m
  · subst hnm
    go_wp2
    generalize (w.alloc (.cells #[.slice a n c] 36)).alloc (.cells #[.slice b n d] 36) = w1 at *
    go_loopw [5] (fun v5 wr => ∃ k : Nat, v5 = .int .i64 (k : Int) ∧ k ≤ n ∧ (ss.take k).map Sk.nm = (tt.take k).map Sk.nm ∧ Below w.heap.size w wr ∧ wr.cell? ⟨w.heap.size, 0, none⟩ = some (.slice a n c) ∧ wr.cell? ⟨w.heap.size + 1, 0, none⟩ = some (.slice b n d)) (fun v _ => n - (intOf v).toNat)
    case atStart => exact ⟨0, rfl, by omega, by simp, HB0.out, CI.out, CJ.out⟩
    case round =>
      obtain ⟨k, rfl, hk, hnm, hB, hc1, hc2⟩ := hrel
      have HNM := Lib.hid hnm
      have HB := Lib.hid hB
      have C1 := Lib.hid hc1
      have C2 := Lib.hid hc2
      clear hnm hB
      by_cases hlt : k < n
      · obtain ⟨b1, o1, rfl, hf1⟩ := H1.out.at (k := k) (by rw [HX.out]; exact hlt)
        obtain ⟨b2, o2, rfl, hf2⟩ := H2.out.at (k := k) (by rw [HY.out]; exact hlt)
        obtain ⟨⟨i1, g1, ⟨ex1, sr1, fa1, fc1⟩⟩, hk1⟩ : ∃ s, ss[k]? = some s := ⟨_, List.getElem?_eq_getElem (by rw [HX.out]; exact hlt)⟩
        obtain ⟨⟨i2, g2, ⟨ex2, sr2, fa2, fc2⟩⟩, hk2⟩ : ∃ s, tt[k]? = some s := ⟨_, List.getElem?_eq_getElem (by rw [HY.out]; exact hlt)⟩
        obtain ⟨⟨d0, d1, d2, d3⟩, hfo1, -⟩ := (hf1 k _ hk1).below HB.out
        obtain ⟨⟨q0, q1, q2, q3⟩, hfo2, -⟩ := (hf2 k _ hk2).below HB.out
        simp only [Flt.sl] at d0 d1 d2 d3 hfo1 q0 q1 q2 q3 hfo2
        have hs1 := HL1.out _ (List.mem_of_getElem? hk1)
        simp only [] at hs1
        have HSM0 := fun W (hW : Below wr.heap.size wr W) => rSameG ex1 ex2 fa1 fa2 _ _ fc1 fc2 sr1 sr2 W rfl rfl hs1 (hfo1.1.below hW) (hfo2.1.below hW)
        obtain ⟨sn1, hsn1⟩ : ∃ sn, sr1.length = sn := ⟨_, rfl⟩
        obtain ⟨sn2, hsn2⟩ : ∃ sn, sr2.length = sn := ⟨_, rfl⟩
        obtain ⟨eqf, heqf⟩ : ∃ e, decide (ex1 = ex2 ∧ sr1 = sr2) = e := ⟨_, rfl⟩
        rw [hsn1] at d3
        rw [hsn2] at q3
        simp only [hsn1, hsn2, heqf] at HSM0
        have HSM := Lib.hid HSM0
        have HD := Lib.hid heqf
        have HK1 := Lib.hid hk1
        have HK2 := Lib.hid hk2
        have S0 := Lib.hid d0
        have S1 := Lib.hid d1
        have S2 := Lib.hid d2
        have S3 := Lib.hid d3
        have T0 := Lib.hid q0
        have T1 := Lib.hid q1
        have T2 := Lib.hid q2
        have T3 := Lib.hid q3
        have HKN : Hid (k < n) := Lib.hid hlt
        have hkz : (k : Int) < (n : Int) := by omega
        clear hf1 hf2 hk1 hk2 hfo1 hfo2 d0 d1 d2 d3 q0 q1 q2 q3 hs1 HSM0 hsn1 hsn2 heqf
        go_wp2_with fail
        refine wp_region_each3 (smV w.heap.size b1 o1 b2 o2 n c d k ex1 ex2 fa1 fa2 sn1 fc1 sn2 fc2 eqf) (fun W => Below wr.heap.size wr W) (fun _ A B => Below A.heap.size A B) smD [21, 22, 23, 24, 25, 26, 27, 28, 29, 30, 31, 32, 33, 6] (by kernel_rfl) (by kernel_rfl) (by kernel_rfl) (Below.refl _ wr).drew
          (fun i j oi oj v us A B hoi hoj hij hw hSA hr hv => sm_st _ _ _ _ _ _ _ _ _ _ _ _ _ _ _ _ _ _ trivial hv) ?hgd
          ⟨?_, ?_, ?_, ?_, ?_, ?_, ?_, ?_, ?_, ?_, ?_, ?_, ?_, ?_, trivial⟩ ?hend
        case hgd =>
          intro i o g b hoi hog v us w hv
          have hi : i < 14 := (Array.getElem?_eq_some_iff.1 hoi).1
          have hc : i = 0 ∨ i = 1 ∨ i = 2 ∨ i = 3 ∨ i = 4 ∨ i = 5 ∨ i = 6 ∨ i = 7 ∨ i = 8 ∨ i = 9 ∨ i = 10 ∨ i = 11 ∨ i = 12 ∨ i = 13 := by omega
          rcases hc with rfl | rfl | rfl | rfl | rfl | rfl | rfl | rfl | rfl | rfl | rfl | rfl | rfl | rfl
          · cases hoi; cases hog
          · cases hoi; cases hog
          · cases hoi; cases hog
          · cases hoi; cases hog
          · cases hoi; cases hog
          · cases hoi; cases hog
          · cases hoi; cases hog
          · cases hoi; cases hog
          · cases hoi; cases hog
          · cases hoi; cases hog
          · cases hoi; cases hog
          · cases hoi; cases hog
          · cases hoi; cases hog
          · cases hoi; cases hog
        case refine_1 =>
          intro a' w9 hS h0 hd
          have e2 : a'.tmps[2]?.getD undef = .pointer (some ⟨w.heap.size, 0, none⟩) := evG (h0 2 (by kernel_rfl))
          refine Does2.value (.pointer (some ⟨w.heap.size, 0, none⟩)) (w' := w9) ?_ ⟨rfl, hS, Below.refl _ _⟩
          clear hS h0 hd
          go_simp
        case refine_2 =>
          intro a' w9 hS h0 hd
          have e21 : a'.tmps[21]?.getD undef = .pointer (some ⟨w.heap.size, 0, none⟩) := evG (hd 0 List.mem_cons_self)
          have c0 := (hS.cell (cell_lt C1.out)).trans C1.out
          refine Does2.value (.slice (some ⟨b1, o1, none⟩) n c) (w' := w9) ?_ ⟨rfl, hS, Below.refl _ _⟩
          clear hS h0 hd
          go_simp
        case refine_3 =>
          intro a' w9 hS h0 hd
          have e5 : a'.tmps[5]?.getD undef = .int .i64 (k : Nat) := evG (h0 5 (by kernel_rfl))
          refine Does2.value (.int .i64 (k : Nat)) (w' := w9) ?_ ⟨rfl, hS, Below.refl _ _⟩
          clear hS h0 hd
          go_simp
        case refine_4 =>
          intro a' w9 hS h0 hd
          have e22 : a'.tmps[22]?.getD undef = .slice (some ⟨b1, o1, none⟩) n c := evG (hd 1 List.mem_cons_self)
          have e23 : a'.tmps[23]?.getD undef = .int .i64 (k : Nat) := evG (hd 2 (List.mem_cons_of_mem _ List.mem_cons_self))
          have hk0 := HKN.out
          refine Does2.value (.pointer (some ⟨b1, o1 + k * 4, none⟩)) (w' := w9) ?_ ⟨rfl, hS, Below.refl _ _⟩
          clear hS h0 hd
          go_simp
        case refine_5 =>
          intro a' w9 hS h0 hd
          have e24 : a'.tmps[24]?.getD undef = .pointer (some ⟨b1, o1 + k * 4, none⟩) := evG (hd 3 List.mem_cons_self)
          refine Does2.value (.pointer (some ⟨b1, o1 + k * 4 + 2, none⟩)) (w' := w9) ?_ ⟨rfl, hS, Below.refl _ _⟩
          clear hS h0 hd
          go_simp
        case refine_6 =>
          intro a' w9 hS h0 hd
          have e25 : a'.tmps[25]?.getD undef = .pointer (some ⟨b1, o1 + k * 4 + 2, none⟩) := evG (hd 4 List.mem_cons_self)
          have c0 := (hS.cell (cell_lt S2.out)).trans S2.out
          have c1 := (hS.cell (cell_lt S3.out)).trans S3.out
          refine Does2.value (.agg #[.bool ex1, .slice fa1 sn1 fc1]) (w' := w9) ?_ ⟨rfl, hS, Below.refl _ _⟩
          clear hS h0 hd
          go_simp
        case refine_7 =>
          intro a' w9 hS h0 hd
          have e3 : a'.tmps[3]?.getD undef = .pointer (some ⟨w.heap.size + 1, 0, none⟩) := evG (h0 3 (by kernel_rfl))
          refine Does2.value (.pointer (some ⟨w.heap.size + 1, 0, none⟩)) (w' := w9) ?_ ⟨rfl, hS, Below.refl _ _⟩
          clear hS h0 hd
          go_simp
        case refine_8 =>
          intro a' w9 hS h0 hd
          have e27 : a'.tmps[27]?.getD undef = .pointer (some ⟨w.heap.size + 1, 0, none⟩) := evG (hd 6 List.mem_cons_self)
          have c0 := (hS.cell (cell_lt C2.out)).trans C2.out
          refine Does2.value (.slice (some ⟨b2, o2, none⟩) n d) (w' := w9) ?_ ⟨rfl, hS, Below.refl _ _⟩
          clear hS h0 hd
          go_simp
        case refine_9 =>
          intro a' w9 hS h0 hd
          have e5 : a'.tmps[5]?.getD undef = .int .i64 (k : Nat) := evG (h0 5 (by kernel_rfl))
          refine Does2.value (.int .i64 (k : Nat)) (w' := w9) ?_ ⟨rfl, hS, Below.refl _ _⟩
          clear hS h0 hd
          go_simp
        case refine_10 =>
          intro a' w9 hS h0 hd
          have e28 : a'.tmps[28]?.getD undef = .slice (some ⟨b2, o2, none⟩) n d := evG (hd 7 List.mem_cons_self)
          have e29 : a'.tmps[29]?.getD undef = .int .i64 (k : Nat) := evG (hd 8 (List.mem_cons_of_mem _ List.mem_cons_self))
          have hk0 := HKN.out
          refine Does2.value (.pointer (some ⟨b2, o2 + k * 4, none⟩)) (w' := w9) ?_ ⟨rfl, hS, Below.refl _ _⟩
          clear hS h0 hd
          go_simp
        case refine_11 =>
          intro a' w9 hS h0 hd
          have e30 : a'.tmps[30]?.getD undef = .pointer (some ⟨b2, o2 + k * 4, none⟩) := evG (hd 9 List.mem_cons_self)
          refine Does2.value (.pointer (some ⟨b2, o2 + k * 4 + 2, none⟩)) (w' := w9) ?_ ⟨rfl, hS, Below.refl _ _⟩
          clear hS h0 hd
          go_simp
        case refine_12 =>
          intro a' w9 hS h0 hd
          have e31 : a'.tmps[31]?.getD undef = .pointer (some ⟨b2, o2 + k * 4 + 2, none⟩) := evG (hd 10 List.mem_cons_self)
          have c0 := (hS.cell (cell_lt T2.out)).trans T2.out
          have c1 := (hS.cell (cell_lt T3.out)).trans T3.out
          refine Does2.value (.agg #[.bool ex2, .slice fa2 sn2 fc2]) (w' := w9) ?_ ⟨rfl, hS, Below.refl _ _⟩
          clear hS h0 hd
          go_simp
        case refine_13 =>
          intro a' w9 hS h0 hd
          have e26 : a'.tmps[26]?.getD undef = .agg #[.bool ex1, .slice fa1 sn1 fc1] := evG (hd 5 List.mem_cons_self)
          have e32 : a'.tmps[32]?.getD undef = .agg #[.bool ex2, .slice fa2 sn2 fc2] := evG (hd 11 (List.mem_cons_of_mem _ List.mem_cons_self))
          refine Does2.call 31 #[.agg #[.bool ex1, .slice fa1 sn1 fc1], .agg #[.bool ex2, .slice fa2 sn2 fc2]] (w' := w9) ?_ ((HSM.out w9 hS).mono ?_)
          · clear hS h0 hd
            go_simp
          · rintro e w8 ⟨rfl, hb⟩
            exact ⟨_, rfl, rfl, hS.trans (hb.mono hS.size), hb⟩
        case refine_14 =>
          intro a' w9 hS h0 hd
          have e33 : a'.tmps[33]?.getD undef = .bool eqf := evG (hd 12 List.mem_cons_self)
          refine Does2.value (.bool eqf) (w' := w9) ?_ ⟨rfl, hS, Below.refl _ _⟩
          clear hS h0 hd
          go_simp
        case hend =>
          intro f w9 hS hv
          have v6 := hv 13 (by decide)
          replace v6 : f 6 = .bool eqf := v6
          simp only [putAll, Act.put, List.setIfInBounds_toArray, List.set_cons_zero, List.set_cons_succ, v6]
          have HB5 := Lib.hid (HB.out.trans (hS.mono HB.out.size))
          have e1 : ∀ q, (w9.drewN q).cell? ⟨w.heap.size, 0, none⟩ = some (.slice (some ⟨b1, o1, none⟩) n c) := fun q => (hS.cell (cell_lt C1.out)).trans C1.out
          have e2 : ∀ q, (w9.drewN q).cell? ⟨w.heap.size + 1, 0, none⟩ = some (.slice (some ⟨b2, o2, none⟩) n d) := fun q => (hS.cell (cell_lt C2.out)).trans C2.out
          have e3 : ∀ q, (w9.drewN q).cell? ⟨b1, o1 + k * 4, none⟩ = some (.int .i64 i1) := fun q => (hS.cell (cell_lt S0.out)).trans S0.out
          have e4 : ∀ q, (w9.drewN q).cell? ⟨b1, o1 + k * 4 + 1, none⟩ = some (.int .u32 g1) := fun q => (hS.cell (cell_lt S1.out)).trans S1.out
          have e5 : ∀ q, (w9.drewN q).cell? ⟨b2, o2 + k * 4, none⟩ = some (.int .i64 i2) := fun q => (hS.cell (cell_lt T0.out)).trans T0.out
          have e6 : ∀ q, (w9.drewN q).cell? ⟨b2, o2 + k * 4 + 1, none⟩ = some (.int .u32 g2) := fun q => (hS.cell (cell_lt T1.out)).trans T1.out
          have F1 := Lib.hid (e1 0)
          have F2 := Lib.hid (e2 0)
          have k0 : (0 : Int) ≤ (k : Int) := by omega
          clear hS hv v6 C1 C2 S0 S1 S2 S3 T0 T1 T2 T3
          cases eqf
          · go_wp2
            go_quiet (fail)
            go_wp2
            go_ret
            exact ⟨ret_bool (decide_eq_false (nm_no HK1.out HK2.out (fun h => of_decide_eq_false HD.out (nm_eq.1 h).1))).symm, bdrawn HB5.out _⟩
          · have HEF := Lib.hid (of_decide_eq_true HD.out)
            by_cases hi : i1 = i2
            · have hi' : (i1 != i2) = false := by simpa using hi
              by_cases hg : g1 = g2
              · have hg' : (g1 != g2) = false := by simpa using hg
                have HNE := Lib.hid (nm_step HNM.out HK1.out HK2.out (nm_eq.2 ⟨HEF.out, hi, hg⟩))
                clear hi hg
                go_wp2
                go_quiet (fail)
                go_wp2
                go_roundw
                case rel => exact ⟨k + 1, by go_num, by omega, HNE.out, bdrawn HB5.out _, F1.out, F2.out⟩
                case measure => simp [intOf]; omega
              · have hg' : (g1 != g2) = true := by simpa using hg
                have HGN := Lib.hid hg
                clear hi hg
                go_wp2
                go_quiet (fail)
                go_wp2
                go_ret
                exact ⟨ret_bool (decide_eq_false (nm_no HK1.out HK2.out (fun h => HGN.out (nm_eq.1 h).2.2))).symm, bdrawn HB5.out _⟩
            · have hi' : (i1 != i2) = true := by simpa using hi
              have HIN := Lib.hid hi
              clear hi
              go_wp2
              go_quiet (fail)
              go_wp2
              go_ret
              exact ⟨ret_bool (decide_eq_false (nm_no HK1.out HK2.out (fun h => HIN.out (nm_eq.1 h).2.1))).symm, bdrawn HB5.out _⟩
      · obtain rfl : k = n := by omega
        have ht1 : ss.take k = ss := List.take_of_length_le (by rw [HX.out]; exact Nat.le_refl _)
        have ht2 : tt.take k = tt := List.take_of_length_le (by rw [HY.out]; exact Nat.le_refl _)
        have hnn := HNM.out
        rw [ht1, ht2] at hnn
        have HNN := Lib.hid hnn
        clear ht1 ht2 hnn
        go_wp2_with fail
        go_ret
        exact ⟨ret_bool (decide_eq_true HNN.out).symm, HB.out⟩
  · have hne : Hid (ss.map Sk.nm ≠ tt.map Sk.nm) := Lib.hid (fun h => hnm (by have := congrArg List.length h; simp at this; rw [HX.out, HY.out] at this; exact this))
    have hz : ((n : Int) != (m : Int)) = true := bne_iff_ne.2 (by omega)
    clear hnm
    go_wp2_with fail
    go_ret
    exact ⟨ret_bool (decide_eq_false hne.out).symm, HB0.out⟩
end Go.Proofs.Ytmcbbccbonadjaa
/- Sockets put and dropped, plainly. -/
namespace Go.Proofs.Ytmcbbccbonadjaa
set_option linter.unusedVariables false
open Go.RowKit

theorem ris_ext : ∀ {l m : List Sk}, Ris l → Ris m → (∀ x, x ∈ l ↔ x ∈ m) → l = m
  | [], [], _, _, _ => rfl
  | [], y :: m, _, _, h => absurd ((h y).2 (List.mem_cons_self ..)) (by simp)
  | x :: l, [], _, _, h => absurd ((h x).1 (List.mem_cons_self ..)) (by simp)
  | x :: l, y :: m, hl, hm, h => by
    unfold Ris at hl hm
    rw [List.pairwise_cons] at hl hm
    have e : x = y := by
      have h1 := (h x).1 (List.mem_cons_self ..)
      have h2 := (h y).2 (List.mem_cons_self ..)
      rcases List.mem_cons.1 h1 with e | h1
      · exact e
      · rcases List.mem_cons.1 h2 with e | h2
        · exact e.symm
        · have := hm.1 x h1; have := hl.1 y h2; omega
    subst e
    rw [ris_ext hl.2 hm.2 fun z => ?_]
    constructor
    · intro hz
      rcases List.mem_cons.1 ((h z).1 (List.mem_cons_of_mem _ hz)) with e | hz'
      · subst e; have := hl.1 _ hz; omega
      · exact hz'
    · intro hz
      rcases List.mem_cons.1 ((h z).2 (List.mem_cons_of_mem _ hz)) with e | hz'
      · subst e; have := hm.1 _ hz; omega
      · exact hz'
theorem lt_mem {i : Int} {ss : List Sk} {x : Sk} : x ∈ lt' i ss ↔ x ∈ ss ∧ x.id < i := by unfold lt'; rw [List.mem_filter]; simp
theorem gt_mem {i : Int} {ss : List Sk} {x : Sk} : x ∈ gt' i ss ↔ x ∈ ss ∧ i < x.id := by unfold gt'; rw [List.mem_filter]; simp
theorem lt_ris {i : Int} {ss : List Sk} (h : Ris ss) : Ris (lt' i ss) := List.Pairwise.sublist List.filter_sublist h
theorem gt_ris {i : Int} {ss : List Sk} (h : Ris ss) : Ris (gt' i ss) := List.Pairwise.sublist List.filter_sublist h
theorem putL_mem {ss : List Sk} {s x : Sk} : x ∈ putL ss s ↔ x = s ∨ (x ∈ ss ∧ x.id ≠ s.id) := by
  unfold putL
  simp only [List.mem_append, List.mem_singleton, lt_mem, gt_mem]
  constructor
  · rintro ((⟨h1, h2⟩ | h) | ⟨h1, h2⟩)
    · exact .inr ⟨h1, by omega⟩
    · exact .inl h
    · exact .inr ⟨h1, by omega⟩
  · rintro (h | ⟨h1, h2⟩)
    · exact .inl (.inr h)
    · rcases Int.lt_or_gt_of_ne h2 with h3 | h3
      · exact .inl (.inl ⟨h1, h3⟩)
      · exact .inr ⟨h1, h3⟩
theorem dropL_mem {ss : List Sk} {i : Int} {x : Sk} : x ∈ dropL ss i ↔ x ∈ ss ∧ x.id ≠ i := by
  unfold dropL
  simp only [List.mem_append, lt_mem, gt_mem]
  constructor
  · rintro (⟨h1, h2⟩ | ⟨h1, h2⟩) <;> exact ⟨h1, by omega⟩
  · rintro ⟨h1, h2⟩
    rcases Int.lt_or_gt_of_ne h2 with h3 | h3
    · exact .inl ⟨h1, h3⟩
    · exact .inr ⟨h1, h3⟩
theorem putL_ris {ss : List Sk} {s : Sk} (h : Ris ss) : Ris (putL ss s) := by
  unfold putL Ris
  rw [List.pairwise_append, List.pairwise_append]
  refine ⟨⟨lt_ris h, by simp, fun x hx y hy => ?_⟩, gt_ris h, fun x hx y hy => ?_⟩
  · simp at hy; subst hy; exact (lt_mem.1 hx).2
  · have h2 := (gt_mem.1 hy).2
    rcases List.mem_append.1 hx with h1 | h1
    · have := (lt_mem.1 h1).2; omega
    · simp at h1; subst h1; exact h2
theorem dropL_ris {ss : List Sk} {i : Int} (h : Ris ss) : Ris (dropL ss i) := by
  unfold dropL Ris
  rw [List.pairwise_append]
  exact ⟨lt_ris h, gt_ris h, fun x hx y hy => by have := (lt_mem.1 hx).2; have := (gt_mem.1 hy).2; omega⟩
theorem part_len (i : Int) (ss : List Sk) : (lt' i ss).length + (gt' i ss).length + ss.countP (fun s => s.id == i) = ss.length := by
  unfold lt' gt'
  rw [← List.countP_eq_length_filter, ← List.countP_eq_length_filter]
  induction ss with
  | nil => simp
  | cons x r ih =>
    simp only [List.countP_cons, List.length_cons]
    by_cases h1 : x.id < i
    · have h2 : ¬ i < x.id := by omega
      have h3 : (x.id == i) = false := beq_eq_false_iff_ne.2 (by omega)
      simp [h1, h2, h3]; omega
    · by_cases h2 : i < x.id
      · have h3 : (x.id == i) = false := beq_eq_false_iff_ne.2 (by omega)
        simp [h1, h2, h3]; omega
      · have h3 : (x.id == i) = true := beq_iff_eq.2 (by omega)
        simp [h1, h2, h3]; omega
theorem put_ok {ss : List Sk} {s : Sk} (h : putE ss s = 0) : okS s ∧ (∀ t ∈ ss, t.id = s.id → t.g = s.g) ∧ ((∃ t ∈ ss, t.id = s.id) ∨ ss.length < 32) := by
  unfold putE at h
  split at h
  · cases h
  · rename_i h1
    split at h
    · cases h
    · rename_i h2
      split at h
      · cases h
      · rename_i h3
        refine ⟨Classical.not_not.1 h1, fun t ht he => ?_, ?_⟩
        · rw [List.any_eq_true] at h2
          have := fun hg : (t.g != s.g) = true => h2 ⟨t, ht, by simp only [he, beq_self_eq_true, hg, Bool.and_self]⟩
          simpa using this
        · simp only [Bool.and_eq_true, List.all_eq_true, decide_eq_true_eq, not_and, Nat.not_le] at h3
          by_cases h4 : ∃ t ∈ ss, t.id = s.id
          · exact .inl h4
          · refine .inr (h3 fun t ht => ?_)
            have : t.id ≠ s.id := fun e => h4 ⟨t, ht, e⟩
            simpa using this
theorem putL_ok {ss : List Sk} {s : Sk} (h : okH ss) (he : putE ss s = 0) : okH (putL ss s) := by
  obtain ⟨h1, h2, h3⟩ := put_ok he
  refine ⟨fun x hx => ?_, putL_ris h.2.1, ?_⟩
  · rcases putL_mem.1 hx with rfl | ⟨hx, _⟩
    · exact h1
    · exact h.1 x hx
  · have hp := part_len s.id ss
    have hl := h.2.2
    unfold putL
    simp only [List.length_append, List.length_cons, List.length_nil]
    rcases h3 with ⟨t, ht, e⟩ | h3
    · have : 0 < ss.countP (fun x => x.id == s.id) := List.countP_pos_iff.2 ⟨t, ht, by simp [e]⟩
      omega
    · omega
theorem dropL_ok {ss : List Sk} {i : Int} (h : okH ss) : okH (dropL ss i) := by
  refine ⟨fun x hx => h.1 x (dropL_mem.1 hx).1, dropL_ris h.2.1, ?_⟩
  have hp := part_len i ss
  have hl := h.2.2
  unfold dropL
  rw [List.length_append]
  omega
theorem putL_again {ss : List Sk} {s : Sk} (h : Ris ss) : putL (putL ss s) s = putL ss s :=
  ris_ext (putL_ris (putL_ris h)) (putL_ris h) fun x => by
    rw [putL_mem, putL_mem]
    constructor
    · rintro (h | ⟨h, _⟩)
      · exact .inl h
      · exact h
    · rintro (h | ⟨h1, h2⟩)
      · exact .inl h
      · exact .inr ⟨.inr ⟨h1, h2⟩, h2⟩
theorem dropL_put {ss : List Sk} {s : Sk} (h : Ris ss) (hn : ∀ t ∈ ss, t.id ≠ s.id) : dropL (putL ss s) s.id = ss :=
  ris_ext (dropL_ris (putL_ris h)) h fun x => by
    rw [dropL_mem, putL_mem]
    constructor
    · rintro ⟨rfl | ⟨h1, _⟩, h2⟩
      · exact absurd rfl h2
      · exact h1
    · intro h1
      exact ⟨.inr ⟨h1, hn x h1⟩, hn x h1⟩
theorem putE_again {ss : List Sk} {s : Sk} (h : Ris ss) (he : putE ss s = 0) : putE (putL ss s) s = 0 :=
  put_old (putL_ris h) (put_ok he).1 (putL_mem.2 (.inl rfl)) rfl rfl
theorem dif_self' {a : List Int} (ha : Inc a) : dif a a = [] := inc_ext (dif_inc ha ha) inc_nil fun x => by
  rw [dif_mem ha ha]
  by_cases h1 : x ∈ a <;> simp [h1]
theorem change_same (g : Int) (e : Bool) {xs : List Int} (h : Inc xs) : change g e xs e xs = [] := by
  unfold change
  cases e <;> simp [chg, said, keep, dif_self' h]
/-- The same sockets, wherever they lie: what is said of them is the same. -/
theorem lt_nm (i : Int) (ss : List Sk) : (lt' i ss).map Sk.nm = lt' i (ss.map Sk.nm) := by unfold lt'; rw [List.filter_map]; rfl
theorem gt_nm (i : Int) (ss : List Sk) : (gt' i ss).map Sk.nm = gt' i (ss.map Sk.nm) := by unfold gt'; rw [List.filter_map]; rfl
theorem putL_nm {ss tt : List Sk} (h : ss.map Sk.nm = tt.map Sk.nm) (s : Sk) : (putL ss s).map Sk.nm = (putL tt s).map Sk.nm := by
  unfold putL; rw [List.map_append, List.map_append, List.map_append, List.map_append, lt_nm, lt_nm, gt_nm, gt_nm, h]
theorem dropL_nm {ss tt : List Sk} (h : ss.map Sk.nm = tt.map Sk.nm) (i : Int) : (dropL ss i).map Sk.nm = (dropL tt i).map Sk.nm := by
  unfold dropL; rw [List.map_append, List.map_append, lt_nm, lt_nm, gt_nm, gt_nm, h]
theorem putE_nm {ss tt : List Sk} (h : ss.map Sk.nm = tt.map Sk.nm) (s : Sk) : putE ss s = putE tt s := by
  have e1 : ∀ l : List Sk, l.any (fun t => (t.id == s.id) && (t.g != s.g)) = (l.map Sk.nm).any (fun t => (t.id == s.id) && (t.g != s.g)) := fun l => by rw [List.any_map]; rfl
  have e2 : ∀ l : List Sk, l.all (fun t => t.id != s.id) = (l.map Sk.nm).all (fun t => t.id != s.id) := fun l => by rw [List.all_map]; rfl
  have e3 : ss.length = tt.length := by have := congrArg List.length h; simpa using this
  unfold putE
  rw [e1 ss, e1 tt, e2 ss, e2 tt, h, e3]
theorem putH_nm {ss tt : List Sk} (h : ss.map Sk.nm = tt.map Sk.nm) (s : Sk) : (putH ss s).map Sk.nm = (putH tt s).map Sk.nm := by
  unfold putH
  rw [putE_nm h]
  split
  · exact putL_nm h s
  · exact h
theorem ris_nm {ss tt : List Sk} (h : ss.map Sk.nm = tt.map Sk.nm) (k : Ris tt) : Ris ss := by
  have h1 : (ss.map Sk.nm).Pairwise fun s t => s.id < t.id := by rw [h, List.pairwise_map]; exact k
  rw [List.pairwise_map] at h1
  exact h1
theorem putH_ok {ss : List Sk} {s : Sk} (h : okH ss) : okH (putH ss s) := by
  unfold putH
  split
  · rename_i he; exact putL_ok h he
  · exact h
/-- Two sockets of two ids, put in any order. -/
theorem putE_two {ss : List Sk} {s t : Sk} (hn : s.id ≠ t.id) (hl : ss.length ≤ 30) : putE (putH ss s) t = putE ss t := by
  unfold putH
  split
  · rename_i he
    have h1 : (putL ss s).any (fun x => (x.id == t.id) && (x.g != t.g)) = ss.any (fun x => (x.id == t.id) && (x.g != t.g)) := by
      rw [Bool.eq_iff_iff, List.any_eq_true, List.any_eq_true]
      constructor
      · rintro ⟨x, hx, h2⟩
        simp only [Bool.and_eq_true, beq_iff_eq] at h2
        rcases putL_mem.1 hx with rfl | ⟨hx, _⟩
        · exact absurd h2.1 hn
        · exact ⟨x, hx, by simp only [Bool.and_eq_true, beq_iff_eq]; exact h2⟩
      · rintro ⟨x, hx, h2⟩
        have h3 : x.id = t.id := by simp only [Bool.and_eq_true, beq_iff_eq] at h2; exact h2.1
        exact ⟨x, putL_mem.2 (.inr ⟨hx, by omega⟩), h2⟩
    have h2 : (32 ≤ (putL ss s).length) = False := by
      have hp := part_len s.id ss
      unfold putL
      simp only [List.length_append, List.length_cons, List.length_nil, eq_iff_iff, iff_false]
      omega
    have h3 : (32 ≤ ss.length) = False := by simp only [eq_iff_iff, iff_false]; omega
    unfold putE
    rw [h1]
    simp only [h2, h3, decide_false, Bool.and_false]
  · rfl
theorem putH_two {ss : List Sk} {s t : Sk} (h : Ris ss) (hn : s.id ≠ t.id) (hl : ss.length ≤ 30) : putH (putH ss s) t = putH (putH ss t) s := by
  have h1 := putE_two (s := s) (t := t) hn hl
  have h2 := putE_two (s := t) (t := s) (Ne.symm hn) hl
  by_cases e1 : putE ss s = 0
  · by_cases e2 : putE ss t = 0
    · rw [(putH_yes (h1.trans e2)).1, (putH_yes (h2.trans e1)).1, (putH_yes e1).1, (putH_yes e2).1]
      refine ris_ext (putL_ris (putL_ris h)) (putL_ris (putL_ris h)) fun x => ?_
      simp only [putL_mem]
      constructor
      · rintro (rfl | ⟨rfl | ⟨h3, h4⟩, h5⟩)
        · exact .inr ⟨.inl rfl, Ne.symm hn⟩
        · exact .inl rfl
        · exact .inr ⟨.inr ⟨h3, h5⟩, h4⟩
      · rintro (rfl | ⟨rfl | ⟨h3, h4⟩, h5⟩)
        · exact .inr ⟨.inl rfl, hn⟩
        · exact .inl rfl
        · exact .inr ⟨.inr ⟨h3, h5⟩, h4⟩
    · rw [(putH_no (fun e => e2 (h1.symm.trans e))).1, (putH_no e2).1]
  · rw [(putH_no e1).1]
    rw [(putH_no (fun e => e1 (h2.symm.trans e))).1]
theorem wants_other {ss : List Sk} {s : Sk} (h : Ris ss) (g : Int) (hg : s.g ≠ g) : wants g (putH ss s) = wants g ss := by
  unfold putH
  split
  · rename_i he
    have e : (putL ss s).filter (fun x => x.g == g) = ss.filter (fun x => x.g == g) := by
      refine ris_ext (List.Pairwise.sublist List.filter_sublist (putL_ris h)) (List.Pairwise.sublist List.filter_sublist h) fun x => ?_
      rw [List.mem_filter, List.mem_filter, putL_mem]
      simp only [beq_iff_eq]
      constructor
      · rintro ⟨rfl | ⟨h1, _⟩, h2⟩
        · exact absurd h2 hg
        · exact ⟨h1, h2⟩
      · rintro ⟨h1, h2⟩
        refine ⟨.inr ⟨h1, fun e => ?_⟩, h2⟩
        have := (put_ok he).2.1 x h1 e
        exact hg (this.symm.trans h2)
    unfold wants ofG
    rw [e]
  · rfl
theorem drop_nm {ss tt : List Sk} (h : ss.map Sk.nm = tt.map Sk.nm) (i : Int) (hr : Ris tt) {t : Sk} (ht : t ∈ tt) (e : t.id = i) : dropE ss i = 0 ∧ (dropH ss i).map Sk.nm = (dropL tt i).map Sk.nm := by
  have h1 : t.nm ∈ ss.map Sk.nm := h ▸ List.mem_map.2 ⟨t, ht, rfl⟩
  obtain ⟨u, hu, e2⟩ := List.mem_map.1 h1
  have e3 : u.id = t.id := congrArg (fun z => z.id) e2
  obtain ⟨d1, d2, _⟩ := drop_yes (ris_nm h hr) hu (e3.trans e)
  exact ⟨d1, by rw [d2]; exact dropL_nm h i⟩
end Go.Proofs.Ytmcbbccbonadjaa
