/- The places of which something is known: slices.DeleteFunc. -/
import Derived.Test.YtiabbkjmgaemaaaGreatDB0
import Derived.Test.YtiabbkjmgaemaaaGreatDB1
import Derived.Test.YtiabbkjmgaemaaaGreatDB2
import Derived.Test.YtiabbkjmgaemaaaGreatDB3
import Derived.Test.YtiabbkjmgaemaaaGreatDB4
import Derived.Test.YtiabbkjmgaemaaaGreatDB5
import Derived.Test.YtiabbkjmgaemaaaGreatDB6
import Derived.Test.YtiabbkjmgaemaaaGreatDB7
import Derived.Test.YtiabbkjmgaemaaaGreatDB8
import Derived.Test.YtiabbkjmgaemaaaGreatDB9
import Derived.Test.YtiabbkjmgaemaaaGreatDB10
import Derived.Test.YtiabbkjmgaemaaaGreatDB11
import Derived.Test.YtiabbkjmgaemaaaGreatDB12
import Derived.Test.YtiabbkjmgaemaaaGreatDB13
import Derived.Test.YtiabbkjmgaemaaaGreatDB14
import Derived.Test.YtiabbkjmgaemaaaGreatDB15
import Derived.Lib.SliceRun
namespace Go.Proofs.YtiabbkjmgaemaaaGreat
set_option linter.unusedVariables false
open Go.RowKit

/-- A place is stored into a row of one's own. -/
theorem own_store {w : World} {B n g c i : Nat} {R : List Plc} {q : Plc} (h : w.ownsRow B 77 7 (.slice (some ⟨g, 0, none⟩) n c) n (pv R)) (hR : R.length = n) (hi : R[i]? = some q) (po v1 v2 g1 : Int) (ex : Bool) (left : Int) (s1 : List Hd) (a1 : Option Addr) (n1 c1 : Nat) (hn1 : s1.length = n1) :
    (((((((w.setCell ⟨g, i * 7, none⟩ (.int .i64 po)).setCell ⟨g, i * 7 + 1, none⟩ (.int .i64 v1)).setCell ⟨g, i * 7 + 2, none⟩ (.int .i64 v2)).setCell ⟨g, i * 7 + 3, none⟩ (.int .u32 g1)).setCell ⟨g, i * 7 + 4, none⟩ (.bool ex)).setCell ⟨g, i * 7 + 5, none⟩ (.int .i64 left)).setCell ⟨g, i * 7 + 6, none⟩ (.slice a1 n1 c1)).ownsRow B 77 7 (.slice (some ⟨g, 0, none⟩) n c) n (pv (R.set i ⟨po, v1, v2, g1, ex, left, s1, a1, c1⟩)) ∧ But1 g w (((((((w.setCell ⟨g, i * 7, none⟩ (.int .i64 po)).setCell ⟨g, i * 7 + 1, none⟩ (.int .i64 v1)).setCell ⟨g, i * 7 + 2, none⟩ (.int .i64 v2)).setCell ⟨g, i * 7 + 3, none⟩ (.int .u32 g1)).setCell ⟨g, i * 7 + 4, none⟩ (.bool ex)).setCell ⟨g, i * 7 + 5, none⟩ (.int .i64 left)).setCell ⟨g, i * 7 + 6, none⟩ (.slice a1 n1 c1)) := by
  subst hn1
  have hi' : i < n := by rw [← hR]; exact (List.getElem?_eq_some_iff.1 hi).1
  have h0 := vown_set h (i * 7) (.int .i64 po) (by omega)
  have h1 := vown_set h0 (i * 7 + 1) (.int .i64 v1) (by omega)
  have h2 := vown_set h1 (i * 7 + 2) (.int .i64 v2) (by omega)
  have h3 := vown_set h2 (i * 7 + 3) (.int .u32 g1) (by omega)
  have h4 := vown_set h3 (i * 7 + 4) (.bool ex) (by omega)
  have h5 := vown_set h4 (i * 7 + 5) (.int .i64 left) (by omega)
  have h6 := vown_set h5 (i * 7 + 6) (.slice a1 s1.length c1) (by omega)
  have e := pv_set1 R i ⟨po, v1, v2, g1, ex, left, s1, a1, c1⟩ q hi
  simp only [Plc.sl] at e
  rw [e] at h6
  exact ⟨h6, (((((((But1.refl g w).trans (But1.set _ g _ _)).trans (But1.set _ g _ _)).trans (But1.set _ g _ _)).trans (But1.set _ g _ _)).trans (But1.set _ g _ _)).trans (But1.set _ g _ _)).trans (But1.set _ g _ _)⟩
/-- What lies in a row of one's own. -/
theorem own_pcs {w : World} {B n g c i : Nat} {R : List Plc} {q : Plc} (h : w.ownsRow B 77 7 (.slice (some ⟨g, 0, none⟩) n c) n (pv R)) (hi : R[i]? = some q) : PCs w g (i * 7) q ∧ (w.frozen? ⟨g, i * 7, none⟩ = false ∧ w.frozen? ⟨g, i * 7 + 1, none⟩ = false ∧ w.frozen? ⟨g, i * 7 + 2, none⟩ = false ∧ w.frozen? ⟨g, i * 7 + 3, none⟩ = false ∧ w.frozen? ⟨g, i * 7 + 4, none⟩ = false ∧ w.frozen? ⟨g, i * 7 + 5, none⟩ = false ∧ w.frozen? ⟨g, i * 7 + 6, none⟩ = false) := by
  have at' : ∀ j u, j < 7 → (pcs q)[j]? = some u → w.cell? ⟨g, i * 7 + j, none⟩ = some u ∧ w.frozen? ⟨g, i * 7 + j, none⟩ = false := fun j u hj hu => vown_cell h (by rw [pv_at R i q hi j hj]; exact hu)
  have k0 := at' 0 _ (by omega) rfl
  have k1 := at' 1 _ (by omega) rfl
  have k2 := at' 2 _ (by omega) rfl
  have k3 := at' 3 _ (by omega) rfl
  have k4 := at' 4 _ (by omega) rfl
  have k5 := at' 5 _ (by omega) rfl
  have k6 := at' 6 _ (by omega) rfl
  exact ⟨⟨k0.1, k1.1, k2.1, k3.1, k4.1, k5.1, k6.1⟩, k0.2, k1.2, k2.2, k3.2, k4.2, k5.2, k6.2⟩
theorem own_blk {w : World} {B n g c size : Nat} {e : TypeId} {xs : List Value} (h : w.ownsRow B e size (.slice (some ⟨g, 0, none⟩) n c) n xs) : B ≤ g ∧ g < w.heap.size ∧ ∃ cs, w.heap[g]? = some (.cells cs e (0, 0)) := by
  rcases h.2 with ⟨h1, _⟩ | ⟨g2, cap, cur, e1, hB, hg, hn, hcap, hsz, htk⟩
  · cases h1
  · simp only [Value.slice.injEq, Option.some.injEq, Addr.mk.injEq] at e1
    obtain ⟨⟨rfl, _, _⟩, _, rfl⟩ := e1
    exact ⟨hB, (Array.getElem?_eq_some_iff.1 hg).1, _, hg⟩
theorem vown_sets {B n g c size : Nat} {e : TypeId} : ∀ (vs : List Value) (o : Nat) (w : World) (xs : List Value), w.ownsRow B e size (.slice (some ⟨g, 0, none⟩) n c) n xs → o + vs.length ≤ n * size →
    ∃ ys, (w.setCells g o vs).ownsRow B e size (.slice (some ⟨g, 0, none⟩) n c) n ys ∧ ys.take o = xs.take o ∧ But1 g w (w.setCells g o vs)
  | [], o, w, xs, h, _ => ⟨xs, h, rfl, But1.refl g w⟩
  | v :: r, o, w, xs, h, hl => by
    have h1 := vown_set h o v (by simp at hl; omega)
    obtain ⟨ys, k1, k2, k3⟩ := vown_sets r (o + 1) _ _ h1 (by simp at hl; omega)
    refine ⟨ys, k1, ?_, (But1.set w g o v).trans k3⟩
    have e : ys.take o = (ys.take (o + 1)).take o := by rw [List.take_take, show min o (o + 1) = o by omega]
    rw [e, k2, List.take_take, show min o (o + 1) = o by omega, List.take_set_of_le (by omega)]
theorem own_prefix {w : World} {B n g c size : Nat} {e : TypeId} {xs : List Value} (h : w.ownsRow B e size (.slice (some ⟨g, 0, none⟩) n c) n xs) (i : Nat) (hi : i ≤ n) : w.ownsRow B e size (.slice (some ⟨g, 0, none⟩) i c) i (xs.take (i * size)) := by
  have hm : i * size ≤ n * size := Nat.mul_le_mul_right _ hi
  refine ⟨by rw [List.length_take, h.1]; omega, ?_⟩
  rcases h.2 with ⟨h1, _⟩ | ⟨g2, cap, cur, e1, hB, hg, hn, hcap, hsz, htk⟩
  · cases h1
  · simp only [Value.slice.injEq, Option.some.injEq, Addr.mk.injEq] at e1
    obtain ⟨⟨rfl, _, _⟩, _, rfl⟩ := e1
    refine .inr ⟨g, c, cur, rfl, hB, hg, by omega, hcap, hsz, ?_⟩
    rw [← htk, List.take_take, show min (i * size) (n * size) = i * size by omega]
theorem run_clear_row {P : Program} (w : World) (t e ty : TypeId) (z : Value) (ht : P.underlying t = some (.slice e)) (hv : ∀ w, (zeroValue e).run P w = .ok z w) (b o n c : Nat) (hn : 0 < n) (h1 : ∀ v ∈ (Builtin.zeroCells z.cells n).toList, v.oneCell' = true)
    (hc : ∀ j, j < (Builtin.zeroCells z.cells n).toList.length → (w.cell? ⟨b, o + j, none⟩).isSome = true) (hf : ∀ j, j < (Builtin.zeroCells z.cells n).toList.length → w.frozen? ⟨b, o + j, none⟩ = false) :
    (Builtin.clear_ #[t] ty #[.slice (some ⟨b, o, none⟩) n c]).run P w = .ok (.tuple #[]) (w.setCells b o (Builtin.zeroCells z.cells n).toList) := by
  have hst := run_storeCells_cells (P := P) b o (Builtin.zeroCells z.cells n).toList 0 w (by simpa using hc) (by simpa using hf) h1
  simp only [Nat.add_zero] at hst
  obtain ⟨m, rfl⟩ : ∃ m, n = m + 1 := ⟨n - 1, by omega⟩
  simp [Builtin.clear_, run_underlying ht, hv, hst]
theorem zero_pl (w : World) : (zeroValue 77).run Tryz.prog w = .ok (.agg #[.int .i64 0, .int .i64 0, .int .i64 0, .int .u32 0, .bool false, .int .i64 0, .slice none 0 0]) w := by
  obtain ⟨i0, hi, hz0, hz1, hz2⟩ := info_parts infoPl
  simp [zeroValue, typeInfo, hi, hz0]
theorem zero_one (n : Nat) : ∀ v ∈ (Builtin.zeroCells (Value.agg #[.int .i64 0, .int .i64 0, .int .i64 0, .int .u32 0, .bool false, .int .i64 0, .slice none 0 0]).cells n).toList, v.oneCell' = true := by
  intro v hv
  simp only [Builtin.zeroCells, Value.cells, Array.toList_map, List.mem_map] at hv
  obtain ⟨j, _, rfl⟩ := hv
  have h7 : j % 7 = 0 ∨ j % 7 = 1 ∨ j % 7 = 2 ∨ j % 7 = 3 ∨ j % 7 = 4 ∨ j % 7 = 5 ∨ j % 7 = 6 := by omega
  have hs : (#[Value.int .i64 0, .int .i64 0, .int .i64 0, .int .u32 0, .bool false, .int .i64 0, .slice none 0 0] : Array Value).size = 7 := rfl
  rw [hs]
  rcases h7 with h | h | h | h | h | h | h <;> rw [h] <;> rfl
theorem zero_len (n : Nat) : (Builtin.zeroCells (Value.agg #[.int .i64 0, .int .i64 0, .int .i64 0, .int .u32 0, .bool false, .int .i64 0, .slice none 0 0]).cells n).toList.length = n * 7 := by
  simp [Builtin.zeroCells, Value.cells]
theorem pv_take (l : List Plc) : ∀ i, (pv l).take (i * 7) = pv (l.take i) := by
  induction l with
  | nil => intro i; simp [pv]
  | cons p r ih =>
    intro i
    cases i with
    | zero => simp [pv]
    | succ i =>
      rw [pv_cons, List.take_succ_cons, pv_cons, List.take_append, pcs_len, List.take_of_length_le (by rw [pcs_len]; omega), show (i + 1) * 7 - 7 = i * 7 by omega, ih]
set_option maxRecDepth 100000 in
set_option maxHeartbeats 4000000 in
theorem dDel (B : Nat) (a : Option Addr) (n c : Nat) (l : List Plc) (w : World) (hB : B ≤ w.heap.size) (hx : l.length = n) (hn : n ≤ 100000) (ho : w.ownsRow B 77 7 (.slice a n c) n (pv l)) (ht : ∀ p ∈ l, PT w p) :
    Calls Tryz.prog 109 #[.slice a n c, .func (.func 110) #[] #[]] w fun e w' =>
      (e = .returned (.slice a (l.filter sm).length c) ∧ w'.ownsRow B 77 7 (.slice a (l.filter sm).length c) (l.filter sm).length (pv (l.filter sm)) ∧ ∀ p ∈ l.filter sm, PT w' p) ∧ Below B w w' := by
  have HX := Lib.hid hx
  have HB0 := Lib.hid hB
  have HO := Lib.hid ho
  have HT := Lib.hid ht
  clear hx hB ho ht
  go_enter Tryz.func109, Tryz.ntmps109
  go_wp2_with fail
  refine (dIdxS a n c l w HX.out hn (own_pls HO.out HX.out fun p hp => (HT.out p hp).ok)).mono ?_
  rintro e w2 ⟨⟨r, rfl, hr⟩, hb⟩
  have HB2 := Lib.hid (hb.mono HB0.out)
  have HSZ := Lib.hid (Nat.le_trans HB0.out hb.size)
  have HO2 := Lib.hid (own_grown HO.out hb (Nat.le_refl _))
  have HT2 : Hid (∀ p ∈ l, PT w2 p) := Lib.hid (fun p hp => (HT.out p hp).below hb)
  clear hb HO HT
  rcases hr with ⟨rfl, hno⟩ | ⟨k0, p0, rfl, hp0, hq0, hbef⟩
  · have HF : Hid (l.filter sm = l) := Lib.hid (List.filter_eq_self.2 fun p hp => by have := hno p hp; unfold gone9 at this; simpa using this)
    clear hno
    go_wp2_with fail
    go_ret
    rw [HF.out, HX.out]
    exact ⟨⟨rfl, HO2.out, HT2.out⟩, HB2.out⟩
  · have hk0 : k0 < n := by rw [← HX.out]; exact (List.getElem?_eq_some_iff.1 hp0).1
    obtain ⟨g, rfl, hBg, hnc, -⟩ := kown_at HO2.out (by omega)
    have HF0 : Hid ((l.take (k0 + 1)).filter sm = l.take k0) := Lib.hid (by
      have h1 : sm p0 = false := by unfold gone9 at hq0; simpa using hq0
      rw [takeH hp0, List.filter_append, List.filter_eq_self.2 (fun p hp => by have := hbef p hp; unfold gone9 at this; simpa using this)]
      simp [h1])
    clear hp0 hq0 hbef
    have hkm : ((k0 : Int) == -1) = false := by rw [beq_eq_false_iff_ne]; omega
    go_wp2_with fail
    go_loopw [5, 6] (fun v5 v6 wr => ∃ (i j : Nat) (R : List Plc), v5 = .int .i64 (i : Int) ∧ v6 = .int .i64 (j : Int) ∧ i < j ∧ j ≤ n ∧ R.length = n ∧ R.take i = (l.take j).filter sm ∧ R.drop j = l.drop j ∧ wr.ownsRow B 77 7 (.slice (some ⟨g, 0, none⟩) n c) n (pv R) ∧ (∀ p ∈ R, PT wr p) ∧ Below B w wr ∧ B ≤ wr.heap.size) (fun _ v _ => n - (intOf v).toNat)
    case atStart =>
      refine ⟨k0, k0 + 1, l, by first | rfl | go_num, by first | rfl | go_num, by omega, by omega, HX.out, HF0.out.symm, rfl, HO2.out, HT2.out, HB2.out, HSZ.out⟩
    case round =>
      obtain ⟨i, j, R, rfl, rfl, hij, hjn, hRl, hRt, hRd, hO, hT, hB, hz⟩ := hrel
      have HRL := Lib.hid hRl
      have HRT := Lib.hid hRt
      have HRD := Lib.hid hRd
      have HO := Lib.hid hO
      have HT := Lib.hid hT
      have HB := Lib.hid hB
      have HZ := Lib.hid hz
      clear hRl hRt hRd hO hT hB hz HO2 HT2 HB2
      by_cases hlt : j < n
      · obtain ⟨p, hp⟩ : ∃ p, R[j]? = some p := ⟨_, List.getElem?_eq_getElem (by rw [HRL.out]; exact hlt)⟩
        obtain ⟨qi, hqi⟩ : ∃ p, R[i]? = some p := ⟨_, List.getElem?_eq_getElem (by rw [HRL.out]; omega)⟩
        have HQI := Lib.hid hqi
        have HPJ := Lib.hid hp
        have HLJ : Hid (l[j]? = some p) := Lib.hid (by
          have h1 : (R.drop j)[0]? = some p := by rw [List.getElem?_drop]; simpa using hp
          rw [HRD.out, List.getElem?_drop] at h1
          simpa using h1)
        obtain ⟨hce, -⟩ := own_pcs HO.out hp
        have HPT := Lib.hid (HT.out p (List.mem_of_getElem? hp))
        clear hp hqi
        obtain ⟨po, v1, v2, g1, ex, left, s1, a1, c1⟩ := p
        obtain ⟨n1, hn1⟩ : ∃ n1, s1.length = n1 := ⟨_, rfl⟩
        unfold PCs Plc.sl at hce
        simp only [hn1] at hce
        obtain ⟨d0, d1, d2, d3, d4, d5, d6⟩ := hce
        have HN1 := Lib.hid hn1
        clear hn1
        have hj1 : (j : Int) < (n : Int) := by omega
        go_wp2_with fail
        have hbn := bel1 wr (.cells #[.int .i64 po, .int .i64 v1, .int .i64 v2, .int .u32 g1, .bool ex, .int .i64 left, .slice a1 n1 c1] 77)
        have PVn := PV.new wr po v1 v2 g1 ex left a1 n1 c1
        have HPV := Lib.hid PVn
        have HBn := Lib.hid hbn
        clear hbn PVn
        generalize wr.alloc (.cells #[.int .i64 po, .int .i64 v1, .int .i64 v2, .int .u32 g1, .bool ex, .int .i64 left, .slice a1 n1 c1] 77) = w5 at *
        refine (dSomeC po v1 v2 g1 ex left a1 n1 c1 w5).mono ?_
        rintro e w6 ⟨rfl, hb⟩
        have HB6 := Lib.hid (HBn.out.trans (hb.mono HBn.out.size))
        replace HPV := Lib.hid (HPV.out.below hb HPV.out.lt)
        have HO6 := Lib.hid (own_grown HO.out HB6.out (Nat.le_refl _))
        have HT6 : Hid (∀ p ∈ R, PT w6 p) := Lib.hid (fun p hp => (HT.out p hp).below HB6.out)
        have HBB := Lib.hid (HB.out.trans (HB6.out.mono HZ.out))
        have HZ6 := Lib.hid (Nat.le_trans HZ.out HB6.out.size)
        clear hb d0 d1 d2 d3 d4 d5 d6 HBn HO HT HB
        obtain ⟨q, hq⟩ : ∃ q, (ex || decide (0 < n1)) = q := ⟨_, rfl⟩
        rw [hq]
        have HQ : Hid (sm ⟨po, v1, v2, g1, ex, left, s1, a1, c1⟩ = q) := Lib.hid (by rw [← hq, ← HN1.out]; rfl)
        clear hq
        obtain ⟨d0, d1, d2, d3, d4, d5, d6, -⟩ := HPV.out.cells
        cases q
        · go_wp2_with fail
          go_roundw
          case rel =>
            exact ⟨i, j + 1, R, rfl, by go_num, by omega, by omega, HRL.out, by rw [HRT.out, takeH HLJ.out, List.filter_append]; simp [HQ.out], by rw [← List.drop_drop, HRD.out, List.drop_drop], HO6.out, HT6.out, HBB.out, HZ6.out⟩
          case measure => simp [intOf]; omega
        · obtain ⟨⟨e0, e1, e2, e3, e4, e5, e6⟩, f0, f1, f2, f3, f4, f5, f6⟩ := own_pcs HO6.out HQI.out
          have hi1 : (i : Int) < (n : Int) := by omega
          go_wp2_with fail
          obtain ⟨ho7, hb7⟩ := own_store HO6.out HRL.out HQI.out po v1 v2 g1 ex left s1 a1 n1 c1 HN1.out
          have hbk := own_blk HO6.out
          obtain ⟨csg, hgg⟩ := hbk.2.2
          go_roundw
          case rel =>
            refine ⟨i + 1, j + 1, R.set i ⟨po, v1, v2, g1, ex, left, s1, a1, c1⟩, by go_num, by go_num, by omega, by omega, by rw [List.length_set]; exact HRL.out, ?_, ?_, ho7, ?_, HBB.out.trans (hb7.below hbk.1 HZ6.out), Nat.le_trans HZ6.out (hb7.below hbk.1 HZ6.out).size⟩
            · have e : (R.set i ⟨po, v1, v2, g1, ex, left, s1, a1, c1⟩)[i]? = some ⟨po, v1, v2, g1, ex, left, s1, a1, c1⟩ := by rw [List.getElem?_set_self (by rw [HRL.out]; omega)]
              rw [takeH e, List.take_set_of_le (by omega), HRT.out, takeH HLJ.out, List.filter_append]
              simp [HQ.out]
            · rw [List.drop_set_of_lt (by omega), ← List.drop_drop, HRD.out, List.drop_drop]
            · intro y hy
              rcases List.mem_or_eq_of_mem_set hy with h1 | rfl
              · exact (HT6.out y h1).ty hgg (by decide) hb7
              · exact (HT6.out _ (List.mem_of_getElem? HPJ.out)).ty hgg (by decide) hb7
          case measure => simp [intOf]; omega
      · obtain rfl : j = n := by omega
        have hRf : R.take i = l.filter sm := by rw [HRT.out, List.take_of_length_le (by rw [HX.out]; exact Nat.le_refl _)]
        have hfl : (l.filter sm).length = i := by rw [← hRf, List.length_take, HRL.out]; omega
        have HRF := Lib.hid hRf
        have HFL := Lib.hid hfl
        have hcl : ∀ ty, (Builtin.clear_ #[44] ty #[.slice (some ⟨g, i * 7, none⟩) (j - i) (c - i)]).run Tryz.prog wr = .ok (.tuple #[]) (wr.setCells g (i * 7) (Builtin.zeroCells (Value.agg #[.int .i64 0, .int .i64 0, .int .i64 0, .int .u32 0, .bool false, .int .i64 0, .slice none 0 0]).cells (j - i)).toList) := fun ty =>
          run_clear_row wr 44 77 ty _ Tryz.underlying44 zero_pl g (i * 7) (j - i) (c - i) (by omega) (zero_one _) (fun k hk => by
            rw [zero_len] at hk
            obtain ⟨u, hu⟩ : ∃ u, (pv R)[i * 7 + k]? = some u := ⟨_, List.getElem?_eq_getElem (by rw [pv_len, HRL.out]; omega)⟩
            rw [(vown_cell HO.out hu).1]; rfl) (fun k hk => by
            rw [zero_len] at hk
            obtain ⟨u, hu⟩ : ∃ u, (pv R)[i * 7 + k]? = some u := ⟨_, List.getElem?_eq_getElem (by rw [pv_len, HRL.out]; omega)⟩
            exact (vown_cell HO.out hu).2)
        obtain ⟨ys, hy1, hy2, hy3⟩ := vown_sets (Builtin.zeroCells (Value.agg #[.int .i64 0, .int .i64 0, .int .i64 0, .int .u32 0, .bool false, .int .i64 0, .slice none 0 0]).cells (j - i)).toList (i * 7) wr (pv R) HO.out (by rw [zero_len]; omega)
        have hy4 := own_prefix hy1 i (by omega)
        rw [hy2, pv_take, hRf] at hy4
        have HY4 := Lib.hid hy4
        have HY3 := Lib.hid hy3
        clear hRf hfl hy1 hy2 hy4 hy3
        have hic : (i : Int) < (c : Int) := by omega
        have hin : (i : Int) ≤ (j : Int) := by omega
        have hcz : ¬ c - i = 0 := by omega
        have hicn : i < c := by omega
        go_wp2_with fail
        go_ret
        obtain ⟨hBg', -, csg, hgg⟩ := own_blk HO.out
        rw [HFL.out]
        refine ⟨⟨rfl, HY4.out, fun p hp => ?_⟩, HB.out.trans (HY3.out.below hBg' HZ.out)⟩
        rw [← HRF.out] at hp
        exact (HT.out p (List.mem_of_mem_take hp)).ty hgg (by decide) HY3.out
end Go.Proofs.YtiabbkjmgaemaaaGreat
/- Tick: a database as time goes on. -/
namespace Go.Proofs.YtiabbkjmgaemaaaGreat
set_option linter.unusedVariables false
open Go.RowKit

/-- A database that is handed back: its places lie in a row of its own. -/
def OutD (w : World) (e : Ending) (w' : World) (kp la lim : Int) (N : List Plc) : Prop :=
  (∃ a c l, e = .returned (.agg #[.int .i64 kp, .int .i64 la, .int .i64 lim, .slice a (List.length l) c]) ∧ l.map Plc.nm = N ∧ w'.ownsRow w.heap.size 77 7 (.slice a (List.length l) c) (List.length l) (pv l) ∧ ∀ p ∈ l, PT w' p) ∧ Below w.heap.size w w'
def tkP (t : Int) (p : Plc) : Plc := ⟨p.port, max (p.v1 - t) 0, max (p.v2 - t) 0, p.g, tkE p.ex p.left t, max (p.left - t) 0, tkS p.ex p.left p.s t, none, 0⟩
def tickL (l : List Plc) (t : Int) : List Plc := (l.map (tkP t)).filter sm
theorem own_but_ne {w w' : World} {X B n size g c : Nat} {e : TypeId} {xs : List Value} (h : w.ownsRow B e size (.slice (some ⟨g, 0, none⟩) n c) n xs) (hb : But1 X w w') (hX : g ≠ X) : w'.ownsRow B e size (.slice (some ⟨g, 0, none⟩) n c) n xs := by
  refine ⟨h.1, ?_⟩
  rcases h.2 with ⟨h1, _⟩ | ⟨g2, cap, cur, e1, hB, hg, h3⟩
  · cases h1
  · simp only [Value.slice.injEq, Option.some.injEq, Addr.mk.injEq] at e1
    obtain ⟨⟨rfl, _, _⟩, _, rfl⟩ := e1
    exact .inr ⟨g, c, cur, rfl, hB, (hb.block g (Array.getElem?_eq_some_iff.1 hg).1 hX).trans hg, h3⟩

set_option maxRecDepth 100000 in
theorem lClonePl (a : Option Addr) (n c : Nat) (s : List Plc) (w : World) (hx : s.length = n) (hm : n ≤ 100000) (h : Pls w a s) :
    Calls Tryz.prog 68 #[.slice a n c] w fun e w' => OutP9 w e w' s := by
  match a, h with
  | none, h =>
    have e : s = [] := by
      rcases h with e | ⟨_, _, e, _⟩
      · exact e
      · cases e
    subst e
    obtain rfl : n = 0 := by simpa using hx.symm
    clear hx
    have heq : ∀ w : World, (binOp .eql 44 (.slice none 0 c) (.slice none 0 0)).run Tryz.prog w = .ok (.bool true) w := fun w => Lib.run_eql_slice_nil w _ _ none 0 c 0 0 Tryz.underlying44
    go_enter Tryz.func68, Tryz.ntmps68
    go_wp2
    go_ret
    exact ⟨⟨none, 0, rfl, World.ownsRow_nil _ _ _ _⟩, Below.refl _ _⟩
  | some ad, h => exact lCloneP (some ad) n c s w hx hm h (fun e => by cases e)
theorem lCloneHd (a : Option Addr) (n c : Nat) (s : List Hd) (w : World) (hx : s.length = n) (hm : n ≤ 100000) (h : Hs w a s) :
    Calls Tryz.prog 80 #[.slice a n c] w fun e w' => OutK w e w' s := lCloneH a n c s w hx hm h trivial
theorem filter_nm (l : List Plc) : (l.filter sm).map Plc.nm = (l.map Plc.nm).filter sm := by
  rw [List.filter_map]
  rfl
set_option maxRecDepth 100000 in
set_option maxHeartbeats 8000000 in
theorem dSomes (B : Nat) (a : Option Addr) (n c : Nat) (l : List Plc) (w : World) (hB : B ≤ w.heap.size) (hx : l.length = n) (hn : n ≤ 100000) (ho : w.ownsRow B 77 7 (.slice a n c) n (pv l)) (ht : ∀ p ∈ l, PT w p) :
    Calls Tryz.prog 70 #[.slice a n c] w fun e w' =>
      (e = .returned (.slice a (l.filter sm).length c) ∧ w'.ownsRow B 77 7 (.slice a (l.filter sm).length c) (l.filter sm).length (pv (l.filter sm)) ∧ ∀ p ∈ l.filter sm, PT w' p) ∧ Below B w w' := by
  have HC := Lib.hid (dDel B a n c l w hB hx hn ho ht)
  clear hB hx ho ht
  go_enter Tryz.func70, Tryz.ntmps70
  go_wp2_with fail
  refine HC.out.mono ?_
  rintro e w2 ⟨⟨rfl, ho, ht⟩, hb⟩
  have HO := Lib.hid ho
  have HT := Lib.hid ht
  have HB := Lib.hid hb
  clear ho ht hb HC
  go_wp2_with fail
  go_ret
  exact ⟨⟨rfl, HO.out, HT.out⟩, HB.out⟩
theorem mkTickW (w : World) (kp la lim : Int) (a : Option Addr) (n c : Nat) (W : World)
    (hW : W = ((w.alloc (.cells #[.int .i64 kp, .int .i64 la, .int .i64 lim, .slice a n c] 46)).alloc (.cells #[.int .i64 0, .int .i64 0, .int .i64 0, .slice none 0 0] 46))) :
    DV W w.heap.size kp la lim a n c ∧ DV W (w.heap.size + 1) 0 0 0 none 0 0 ∧ Below w.heap.size w W ∧ W.heap.size = w.heap.size + 2 := by
  subst hW
  have e0 : w.heap.size = w.heap.size := rfl
  have e1 : (w.alloc (.cells #[.int .i64 kp, .int .i64 la, .int .i64 lim, .slice a n c] 46)).heap.size = w.heap.size + 1 := by rw [World.size_alloc]
  have e2 : ((w.alloc (.cells #[.int .i64 kp, .int .i64 la, .int .i64 lim, .slice a n c] 46)).alloc (.cells #[.int .i64 0, .int .i64 0, .int .i64 0, .slice none 0 0] 46)).heap.size = w.heap.size + 2 := by rw [World.size_alloc, e1]
  have u0 := DV.new w kp la lim a n c
  have u1 := DV.new (w.alloc (.cells #[.int .i64 kp, .int .i64 la, .int .i64 lim, .slice a n c] 46)) 0 0 0 none 0 0
  rw [e1] at u1
  exact ⟨(u0.keep _), u1, (((Below.refl _ w).alloc (by exact Nat.le_refl _) _).alloc (by rw [e1]; omega) _), e2⟩
set_option maxRecDepth 100000 in
set_option maxHeartbeats 8000000 in
theorem dTick9 (kp la lim : Int) (a : Option Addr) (n c : Nat) (l : List Plc) (t0 : Int) (w : World) (hx : l.length = n) (hn : n ≤ 100000) (hH : Pls w a l) (hk : ∀ p ∈ l, okP p) (ht0 : -9223372036854775808 ≤ t0 ∧ t0 ≤ 9223372036854775807) :
    Calls Tryz.prog 36 #[.agg #[.int .i64 kp, .int .i64 la, .int .i64 lim, .slice a n c], .int .i64 t0] w fun e w' => OutD w e w' kp la lim (tickL l (max t0 0)) := by
  have HX := Lib.hid hx
  have HK := Lib.hid hk
  have HT0 : Hid (0 ≤ max t0 0 ∧ max t0 0 ≤ 9223372036854775807) := Lib.hid (by omega)
  obtain ⟨w2, hw2⟩ : ∃ w2, w2 = (w.alloc (.cells #[.int .i64 kp, .int .i64 la, .int .i64 lim, .slice a n c] 46)).alloc (.cells #[.int .i64 0, .int .i64 0, .int .i64 0, .slice none 0 0] 46) := ⟨_, rfl⟩
  obtain ⟨hv0, hv1, hb, -⟩ := mkTickW w kp la lim a n c w2 hw2
  have V0 := Lib.hid hv0
  have V1 := Lib.hid hv1
  have HB := Lib.hid hb
  have HH := Lib.hid (hH.below hb)
  have HH0 := Lib.hid hH
  clear hx hk hv0 hv1 hb hH ht0
  go_enter Tryz.func36, Tryz.ntmps36
  obtain ⟨c0, c1, c2, c3, -⟩ := V0.out.cells
  go_wp2_with fail
  rw [← hw2]
  clear hw2 c0 c1 c2 c3
  obtain ⟨t, htt⟩ : ∃ t, max t0 0 = t := ⟨_, rfl⟩
  rw [htt] at HT0 ⊢
  have hmt : Hid (max t 0 = t) := Lib.hid (by have := HT0.out; omega)
  have HTT := Lib.hid htt
  clear htt
  refine (lClonePl a n c l w2 HX.out hn HH.out).mono ?_
  rintro e w3 ⟨⟨a3, cc, rfl, ho3⟩, hb3⟩
  have HZ2 : Hid (w.heap.size + 2 ≤ w2.heap.size) := Lib.hid (by have := V1.out.lt; omega)
  rw [HX.out] at ho3 ⊢
  replace V0 := Lib.hid (V0.out.below hb3 V0.out.lt)
  replace V1 := Lib.hid (V1.out.below hb3 V1.out.lt)
  have HB3 := Lib.hid (HB.out.trans (hb3.mono HB.out.size))
  have HZ3 := Lib.hid hb3.size
  have HO3 := Lib.hid ho3
  clear hb3 ho3 HB HH
  obtain ⟨c0, c1, c2, c3, f0, f1, f2, f3⟩ := V0.out.cells
  go_wp2_with fail
  clear c0 c1 c2 c3 f0 f1 f2 f3
  have BS := But1.set w3 w.heap.size 3 (.slice a3 n cc)
  have VS := Lib.hid (V0.out.set3 a3 n cc)
  have V1S := Lib.hid (V1.out.but BS (by omega))
  have HO4 := Lib.hid (vown_but HO3.out BS (by have := HZ2.out; omega))
  have HB4 := Lib.hid (HB3.out.trans (BS.below (Nat.le_refl _) HB3.out.size))
  have HZ4 : Hid (w2.heap.size ≤ (w3.setCell ⟨w.heap.size, 3, none⟩ (.slice a3 n cc)).heap.size) := Lib.hid (Nat.le_trans HZ3.out (BS.below (Nat.le_refl _) HB3.out.size).size)
  clear BS V0 V1 HO3 HB3 HZ3
  generalize w3.setCell ⟨w.heap.size, 3, none⟩ (.slice a3 n cc) = w4 at *
  go_loopw [16] (fun v16 wr => ∃ (k : Nat) (R : List Plc), v16 = .int .i64 (k : Int) ∧ k ≤ n ∧ R.length = n ∧ (R.take k).map Plc.nm = (l.take k).map (tkP t) ∧ R.drop k = l.drop k ∧ wr.ownsRow w2.heap.size 77 7 (.slice a3 n cc) n (pv R) ∧ (∀ p ∈ R.take k, PT wr p) ∧
    DV wr w.heap.size kp la lim a3 n cc ∧ DV wr (w.heap.size + 1) 0 0 0 none 0 0 ∧ Below w.heap.size w wr ∧ w2.heap.size ≤ wr.heap.size) (fun v _ => n - (intOf v).toNat)
  case atStart => exact ⟨0, l, rfl, by omega, HX.out, by simp, rfl, HO4.out, by simp, VS.out, V1S.out, HB4.out, HZ4.out⟩
  case round =>
    obtain ⟨k, R, rfl, hkn, hRl, hRt, hRd, hO, hT, hV0, hV1, hB, hz⟩ := hrel
    have HRL := Lib.hid hRl
    have HRT := Lib.hid hRt
    have HRD := Lib.hid hRd
    have HO := Lib.hid hO
    have HT := Lib.hid hT
    have V0 := Lib.hid hV0
    have V1 := Lib.hid hV1
    have HB := Lib.hid hB
    have HZ := Lib.hid hz
    clear hRl hRt hRd hO hT hV0 hV1 hB hz HO4 VS V1S HB4 HZ4
    by_cases hlt : k < n
    · obtain ⟨g, rfl, hBg, hnc, -⟩ := kown_at HO.out (by omega)
      obtain ⟨p, hp⟩ : ∃ p, R[k]? = some p := ⟨_, List.getElem?_eq_getElem (by rw [HRL.out]; exact hlt)⟩
      have HPK := Lib.hid hp
      have hlj : l[k]? = some p := by
        have h1 : (R.drop k)[0]? = some p := by rw [List.getElem?_drop]; simpa using hp
        rw [HRD.out, List.getElem?_drop] at h1
        simpa using h1
      have HLK := Lib.hid hlj
      have hmem := List.mem_of_getElem? hlj
      have HPO := Lib.hid ((HH0.out.mem hmem).below HB.out)
      have HOKP := Lib.hid (HK.out p hmem)
      obtain ⟨hce, -⟩ := own_pcs HO.out hp
      clear hp hlj hmem
      obtain ⟨po, v1, v2, g1, ex, left, s1, a1, c1⟩ := p
      obtain ⟨n1, hn1⟩ : ∃ n1, s1.length = n1 := ⟨_, rfl⟩
      unfold PCs Plc.sl at hce
      simp only [hn1] at hce
      obtain ⟨d0, d1, d2, d3, d4, d5, d6⟩ := hce
      have HN1 := Lib.hid hn1
      clear hn1
      have hj1 : (k : Int) < (n : Int) := by omega
      have hgr := own_blk HO.out
      have HGR := Lib.hid hgr
      clear hgr
      go_wp2_with fail
      have hbn := bel1 wr (.cells #[.int .i64 po, .int .i64 v1, .int .i64 v2, .int .u32 g1, .bool ex, .int .i64 left, .slice a1 n1 c1] 77)
      have PVn := PV.new wr po v1 v2 g1 ex left a1 n1 c1
      have HPV := Lib.hid PVn
      have HBn := Lib.hid hbn
      clear hbn PVn
      generalize wr.alloc (.cells #[.int .i64 po, .int .i64 v1, .int .i64 v2, .int .u32 g1, .bool ex, .int .i64 left, .slice a1 n1 c1] 77) = w5 at *
      have hok := HOKP.out
      unfold okP at hok
      obtain ⟨hpo0, hv10, hv20, hokm, -⟩ := hok
      simp only at hpo0 hv10 hv20 hokm
      have hlb := hokm.2.2.2.1
      have hll := hokm.left
      refine (mTick g1 ex left a1 n1 c1 s1 t w5 HN1.out (by have := hokm.2.1; have := HN1.out; omega) (HPO.out.1.below HBn.out) (fun x hx => (hlb x hx).1) (by have := hll; omega) (by have := HT0.out; omega)).mono ?_
      rintro e w6 ⟨⟨a8, c8, rfl, h8⟩, hb⟩
      rw [hmt.out] at h8 ⊢
      obtain ⟨s8, hs8⟩ : ∃ s8, tkS ex left s1 t = s8 := ⟨_, rfl⟩
      obtain ⟨E, hE⟩ : ∃ E, tkE ex left t = E := ⟨_, rfl⟩
      obtain ⟨L, hL⟩ : ∃ L, max (left - t) 0 = L := ⟨_, rfl⟩
      rw [hs8] at h8
      rw [hs8, hE, hL]
      have HNM : Hid (Plc.nm ⟨po, max (v1 - t) 0, max (v2 - t) 0, g1, E, L, s8, a8, c8⟩ = tkP t ⟨po, v1, v2, g1, ex, left, s1, a1, c1⟩) := Lib.hid (by unfold Plc.nm tkP; simp only [hs8, hE, hL])
      have HPB : Hid (PB ⟨po, max (v1 - t) 0, max (v2 - t) 0, g1, E, L, s8, a8, c8⟩) := Lib.hid (by
        have q1 := HPO.out.2
        have q2 := HT0.out
        unfold PB isI at q1 ⊢
        simp only at q1 ⊢
        refine ⟨⟨q1.1.1, ⟨by omega, by omega⟩, by omega, by omega⟩, q1.2.1, by rw [← hL]; have := hll; constructor <;> omega⟩)
      have H8 := Lib.hid h8
      have q1 : IntKind.i64.wrap (v1 - t) = v1 - t := vwrap (by have := HT0.out; omega) (by have := HT0.out; omega)
      have q2 : IntKind.i64.wrap (v2 - t) = v2 - t := vwrap (by have := HT0.out; omega) (by have := HT0.out; omega)
      clear hs8 hE hL h8 hpo0 hv10 hv20 hokm hlb hll
      have HB6 := Lib.hid (HBn.out.trans (hb.mono HBn.out.size))
      replace HPV := Lib.hid (HPV.out.below hb HPV.out.lt)
      have HO6 := Lib.hid (own_grown HO.out HB6.out (Nat.le_refl _))
      have HT6 : Hid (∀ p ∈ R.take k, PT w6 p) := Lib.hid (fun p hp => (HT.out p hp).below HB6.out)
      have V06 := Lib.hid (V0.out.below HB6.out V0.out.lt)
      have V16 := Lib.hid (V1.out.below HB6.out V1.out.lt)
      have HBB := Lib.hid (HB.out.trans (HB6.out.mono HB.out.size))
      have HZ6 := Lib.hid (Nat.le_trans HZ.out HB6.out.size)
      have hgx : ¬ g = wr.heap.size := by have := HGR.out.2.1; omega
      have hxg : ¬ wr.heap.size = g := by have := HGR.out.2.1; omega
      have hNx : ¬ w.heap.size = wr.heap.size := by have := V0.out.lt; omega
      have hNg : ¬ w.heap.size = g := by have := HGR.out.1; have := HZ2.out; omega
      have hMx : ¬ w.heap.size + 1 = wr.heap.size := by have := V1.out.lt; omega
      have hMg : ¬ w.heap.size + 1 = g := by have := HGR.out.1; have := HZ2.out; omega
      clear hb d0 d1 d2 d3 d4 d5 d6 HBn HO HT HB V0 V1
      obtain ⟨d0, d1, d2, d3, d4, d5, d6, e0, e1, e2, e3, e4, e5, e6⟩ := HPV.out.cells
      obtain ⟨c0, c1', c2, c3, -⟩ := V06.out.cells
      obtain ⟨⟨y0, y1, y2, y3, y4, y5, y6⟩, z0, z1, z2, z3, z4, z5, z6⟩ := own_pcs HO6.out HPK.out
      unfold Plc.sl at y6
      simp only at y0 y1 y2 y3 y4 y5 y6
      go_wp2_with fail
      have BX : But1 wr.heap.size w6 ((((((w6.setCell ⟨wr.heap.size, 3, none⟩ (.int .u32 g1)).setCell ⟨wr.heap.size, 4, none⟩ (.bool E)).setCell ⟨wr.heap.size, 5, none⟩ (.int .i64 L)).setCell ⟨wr.heap.size, 6, none⟩ (.slice a8 s8.length c8)).setCell ⟨wr.heap.size, 1, none⟩ (.int .i64 (max (v1 - t) 0))).setCell ⟨wr.heap.size, 2, none⟩ (.int .i64 (max (v2 - t) 0))) := ((((((But1.refl _ w6).trans (But1.set _ _ _ _)).trans (But1.set _ _ _ _)).trans (But1.set _ _ _ _)).trans (But1.set _ _ _ _)).trans (But1.set _ _ _ _)).trans (But1.set _ _ _ _)
      have hoA := own_but_ne HO6.out BX hgx
      have hxT : w6.heap[wr.heap.size]? = some (.cells _ 77 (0, 0)) := HPV.out
      obtain ⟨csg, hgg⟩ := HGR.out.2.2
      have hgT : ∃ cs, (((((((w6.setCell ⟨wr.heap.size, 3, none⟩ (.int .u32 g1)).setCell ⟨wr.heap.size, 4, none⟩ (.bool E)).setCell ⟨wr.heap.size, 5, none⟩ (.int .i64 L)).setCell ⟨wr.heap.size, 6, none⟩ (.slice a8 s8.length c8)).setCell ⟨wr.heap.size, 1, none⟩ (.int .i64 (max (v1 - t) 0))).setCell ⟨wr.heap.size, 2, none⟩ (.int .i64 (max (v2 - t) 0)))).heap[g]? = some (.cells cs 77 (0, 0)) := (own_blk hoA).2.2
      obtain ⟨csA, hgA⟩ := hgT
      have hzX : w6.heap.size ≤ (((((((w6.setCell ⟨wr.heap.size, 3, none⟩ (.int .u32 g1)).setCell ⟨wr.heap.size, 4, none⟩ (.bool E)).setCell ⟨wr.heap.size, 5, none⟩ (.int .i64 L)).setCell ⟨wr.heap.size, 6, none⟩ (.slice a8 s8.length c8)).setCell ⟨wr.heap.size, 1, none⟩ (.int .i64 (max (v1 - t) 0))).setCell ⟨wr.heap.size, 2, none⟩ (.int .i64 (max (v2 - t) 0)))).heap.size := BX.size
      obtain ⟨ho7, hb7⟩ := own_store hoA HRL.out HPK.out po (max (v1 - t) 0) (max (v2 - t) 0) g1 E L s8 a8 s8.length c8 rfl
      go_roundw
      case rel =>
        have hBA : Below w.heap.size w6 ((((((w6.setCell ⟨wr.heap.size, 3, none⟩ (.int .u32 g1)).setCell ⟨wr.heap.size, 4, none⟩ (.bool E)).setCell ⟨wr.heap.size, 5, none⟩ (.int .i64 L)).setCell ⟨wr.heap.size, 6, none⟩ (.slice a8 s8.length c8)).setCell ⟨wr.heap.size, 1, none⟩ (.int .i64 (max (v1 - t) 0))).setCell ⟨wr.heap.size, 2, none⟩ (.int .i64 (max (v2 - t) 0))) := BX.below (by have := HZ2.out; have := HZ.out; omega) (by have := V06.out.lt; omega)
        have hB7 := hb7.below (B := w.heap.size) (by have := HGR.out.1; have := HZ2.out; omega) (Nat.le_trans (by have := V06.out.lt; omega) hzX)
        refine ⟨k + 1, R.set k ⟨po, max (v1 - t) 0, max (v2 - t) 0, g1, E, L, s8, a8, c8⟩, by go_num, by omega, by rw [List.length_set]; exact HRL.out, ?_, ?_, ho7, ?_, (V06.out.but BX hNx).but hb7 hNg, (V16.out.but BX hMx).but hb7 hMg, HBB.out.trans (hBA.trans hB7), Nat.le_trans HZ6.out (Nat.le_trans hzX hB7.size)⟩
        · rw [takeH (List.getElem?_set_self (by rw [HRL.out]; exact hlt)), List.take_set_of_le (by omega), List.map_append, HRT.out, takeH HLK.out, List.map_append]
          simp only [List.map_cons, List.map_nil, HNM.out]
        · rw [List.drop_set_of_lt (by omega), ← List.drop_drop, HRD.out, List.drop_drop]
        · intro y hy
          rw [takeH (List.getElem?_set_self (by rw [HRL.out]; exact hlt)), List.take_set_of_le (by omega)] at hy
          rcases List.mem_append.1 hy with h1 | h1
          · exact ((HT6.out y h1).ty hxT (by decide) BX).ty hgA (by decide) hb7
          · obtain rfl : y = _ := by simpa using h1
            exact PT.ty (PT.ty ⟨H8.out, HPB.out⟩ hxT (by decide) BX) hgA (by decide) hb7
      case measure => simp [intOf]; omega
    · obtain rfl : k = n := by omega
      have hRt : R.map Plc.nm = l.map (tkP t) := by
        have h1 := HRT.out
        rwa [List.take_of_length_le (by rw [HRL.out]; exact Nat.le_refl _), List.take_of_length_le (by rw [HX.out]; exact Nat.le_refl _)] at h1
      have hT' : ∀ p ∈ R, PT wr p := by
        have h1 := HT.out
        rwa [List.take_of_length_le (by rw [HRL.out]; exact Nat.le_refl _)] at h1
      have HRF := Lib.hid hRt
      have HTF := Lib.hid hT'
      clear hRt hT' HRT HRD HT
      obtain ⟨c0, c1, c2, c3, f0, f1, f2, f3⟩ := V0.out.cells
      go_wp2_with fail
      refine (dSomes w2.heap.size a3 k cc R wr HZ.out HRL.out hn HO.out HTF.out).mono ?_
      rintro e w7 ⟨⟨rfl, ho7, ht7⟩, hb7⟩
      have V07 := Lib.hid (V0.out.below hb7 (by have := HZ2.out; omega))
      have V17 := Lib.hid (V1.out.below hb7 (by have := HZ2.out; omega))
      have HB7 := Lib.hid (HB.out.trans (hb7.mono (by have := HZ2.out; omega)))
      have HO7 := Lib.hid ho7
      have HT7 := Lib.hid ht7
      have HNMF : Hid ((R.filter sm).map Plc.nm = tickL l (max t0 0)) := Lib.hid (by rw [filter_nm, HRF.out, HTT.out]; rfl)
      have HS7 : Hid (w.heap.size ≤ w7.heap.size) := Lib.hid HB7.out.size
      clear ho7 ht7 hb7 c0 c1 c2 c3 f0 f1 f2 f3
      obtain ⟨lf7, hlf7⟩ : ∃ l, R.filter sm = l := ⟨_, rfl⟩
      rw [hlf7] at HO7 HT7 HNMF ⊢
      clear hlf7
      obtain ⟨c0, c1, c2, c3, f0, f1, f2, f3⟩ := V07.out.cells
      obtain ⟨d0, d1, d2, d3, g0, g1, g2, g3⟩ := V17.out.cells
      have hNM : ¬ w.heap.size = w.heap.size + 1 := by omega
      go_wp2_with fail
      have B1 := But1.set w7 w.heap.size 3 (.slice a3 lf7.length cc)
      have V1f := V17.out.but B1 (by omega)
      have V0f := V07.out.set3 a3 lf7.length cc
      have hof := vown_but HO7.out B1 (by have := HZ2.out; omega)
      refine ret_cell9 (p := 4) rfl rfl rfl (V1f.store kp la lim a3 lf7.length cc).load ?_
      have B2 := V1f.store_but kp la lim a3 lf7.length cc
      have hx1 : w7.heap[w.heap.size]? = some (.cells _ 46 (0, 0)) := V07.out
      have hx2 : (w7.setCell ⟨w.heap.size, 3, none⟩ (.slice a3 lf7.length cc)).heap[w.heap.size + 1]? = some (.cells _ 46 (0, 0)) := V1f
      refine ⟨⟨a3, cc, lf7, rfl, HNMF.out, vown_le (vown_but hof B2 (by have := HZ2.out; omega)) (by have := HZ2.out; omega), fun p hp => ((HT7.out p hp).ty hx1 (by decide) B1).ty hx2 (by decide) B2⟩, ?_⟩
      exact HB7.out.trans ((B1.below (Nat.le_refl _) HS7.out).trans (B2.below (by omega) (Nat.le_trans HS7.out (B1.below (Nat.le_refl _) HS7.out).size)))
end Go.Proofs.YtiabbkjmgaemaaaGreat
/- A database in memory of its own. -/
namespace Go.Proofs.YtiabbkjmgaemaaaGreat
set_option linter.unusedVariables false
open Go.RowKit

theorem pv_set6 (l : List Plc) : ∀ (k : Nat) (po v1 v2 g1 : Int) (ex : Bool) (left : Int) (s1 : List Hd) (a1 : Option Addr) (c1 : Nat) (a8 : Option Addr) (c8 : Nat), l[k]? = some ⟨po, v1, v2, g1, ex, left, s1, a1, c1⟩ → (pv l).set (k * 7 + 6) (.slice a8 s1.length c8) = pv (l.set k ⟨po, v1, v2, g1, ex, left, s1, a8, c8⟩) := by
  induction l with
  | nil => intro k _ _ _ _ _ _ _ _ _ _ _ h; simp at h
  | cons t r ih =>
    intro k po v1 v2 g1 ex left s1 a1 c1 a8 c8 h
    cases k with
    | zero =>
      simp at h
      subst h
      rw [List.set_cons_zero, pv_cons, pv_cons]
      simp [pcs, Plc.sl]
    | succ k =>
      have h' : r[k]? = some ⟨po, v1, v2, g1, ex, left, s1, a1, c1⟩ := by simpa using h
      rw [List.set_cons_succ, pv_cons, pv_cons, List.set_append_right _ _ (by rw [pcs_len]; omega), pcs_len, show (k + 1) * 7 + 6 - 7 = k * 7 + 6 by omega, ih k po v1 v2 g1 ex left s1 a1 c1 a8 c8 h']
def owV (N X g k n cc B : Nat) (R : List Plc) (po v1 v2 g1 : Int) (ex : Bool) (left : Int) (s1 : List Hd) (a1 : Option Addr) (n1 c1 : Nat) (W0 : World) : Nat → Value → List Value → World → Prop
  | 0, v, _, _ => v = .pointer (some ⟨N, 3, none⟩)
  | 1, v, _, _ => v = .slice (some ⟨g, 0, none⟩) n cc
  | 2, v, _, _ => v = .int .i64 (k : Int)
  | 3, v, _, _ => v = .pointer (some ⟨X, 3, none⟩)
  | 4, v, _, _ => v = .pointer (some ⟨X, 6, none⟩)
  | 5, v, _, _ => v = .slice a1 n1 c1
  | 6, v, _, w => ∃ (a8 : Option Addr) (c8 : Nat), v = .slice a8 s1.length c8 ∧ HT w a8 s1
  | 7, v, _, _ => v = .pointer (some ⟨g, k * 7, none⟩)
  | 8, v, _, _ => v = .pointer (some ⟨g, k * 7 + 3, none⟩)
  | 9, v, _, _ => v = .pointer (some ⟨g, k * 7 + 6, none⟩)
  | 10, v, us, w => ∃ a8 c8, w.ownsRow B 77 7 (.slice (some ⟨g, 0, none⟩) n cc) n (pv (R.set k ⟨po, v1, v2, g1, ex, left, s1, a8, c8⟩)) ∧ HT w a8 s1 ∧ ∃ W, Below W0.heap.size W0 W ∧ But1 g W w
  | _, _, _, _ => True
def owD : Nat → List Nat
  | 1 => [0]
  | 4 => [3]
  | 5 => [4]
  | 6 => [5]
  | 7 => [1, 2]
  | 8 => [7]
  | 9 => [8]
  | 10 => [9, 6]
  | _ => []
theorem ow_st (N X g k n cc B : Nat) (R : List Plc) (po v1 v2 g1 : Int) (ex : Bool) (left : Int) (s1 : List Hd) (a1 : Option Addr) (n1 c1 : Nat) (W0 : World) {i : Nat} {v : Value} {us : List Value} {w w' : World} (h10 : i ≠ 10) (hr : Below w.heap.size w w') (hv : owV N X g k n cc B R po v1 v2 g1 ex left s1 a1 n1 c1 W0 i v us w) : owV N X g k n cc B R po v1 v2 g1 ex left s1 a1 n1 c1 W0 i v us w' := by
  unfold owV at hv ⊢
  split at hv
  all_goals first
    | exact hv
    | (obtain ⟨x, y, e, h⟩ := hv; exact ⟨x, y, e, h.below hr⟩)
    | exact absurd rfl h10
set_option maxRecDepth 100000 in
set_option maxHeartbeats 8000000 in
theorem dOwn (kp la lim : Int) (a : Option Addr) (n c : Nat) (l : List Plc) (w : World) (hx : l.length = n) (hn : n ≤ 100000) (hH : Pls w a l) (hk : ∀ p ∈ l, p.s.length ≤ 100000) :
    Calls Tryz.prog 50 #[.agg #[.int .i64 kp, .int .i64 la, .int .i64 lim, .slice a n c]] w fun e w' => OutD w e w' kp la lim (l.map Plc.nm) := by
  have HX := Lib.hid hx
  have HK := Lib.hid hk
  obtain ⟨w2, hw2⟩ : ∃ w2, w2 = (w.alloc (.cells #[.int .i64 kp, .int .i64 la, .int .i64 lim, .slice a n c] 46)).alloc (.cells #[.int .i64 0, .int .i64 0, .int .i64 0, .slice none 0 0] 46) := ⟨_, rfl⟩
  obtain ⟨hv0, hv1, hb, -⟩ := mkTickW w kp la lim a n c w2 hw2
  have V0 := Lib.hid hv0
  have V1 := Lib.hid hv1
  have HB := Lib.hid hb
  have HH := Lib.hid (hH.below hb)
  have HH0 := Lib.hid hH
  clear hx hk hv0 hv1 hb hH
  go_enter Tryz.func50, Tryz.ntmps50
  obtain ⟨c0, c1, c2, c3, -⟩ := V0.out.cells
  go_wp2_with fail
  rw [← hw2]
  clear hw2 c0 c1 c2 c3
  refine (lClonePl a n c l w2 HX.out hn HH.out).mono ?_
  rintro e w3 ⟨⟨a3, cc, rfl, ho3⟩, hb3⟩
  have HZ2 : Hid (w.heap.size + 2 ≤ w2.heap.size) := Lib.hid (by have := V1.out.lt; omega)
  rw [HX.out] at ho3 ⊢
  replace V0 := Lib.hid (V0.out.below hb3 V0.out.lt)
  replace V1 := Lib.hid (V1.out.below hb3 V1.out.lt)
  have HB3 := Lib.hid (HB.out.trans (hb3.mono HB.out.size))
  have HZ3 := Lib.hid hb3.size
  have HO3 := Lib.hid ho3
  clear hb3 ho3 HB HH
  obtain ⟨c0, c1, c2, c3, f0, f1, f2, f3⟩ := V0.out.cells
  go_wp2_with fail
  clear c0 c1 c2 c3 f0 f1 f2 f3
  have BS := But1.set w3 w.heap.size 3 (.slice a3 n cc)
  have VS := Lib.hid (V0.out.set3 a3 n cc)
  have V1S := Lib.hid (V1.out.but BS (by omega))
  have HO4 := Lib.hid (vown_but HO3.out BS (by have := HZ2.out; omega))
  have HB4 := Lib.hid (HB3.out.trans (BS.below (Nat.le_refl _) HB3.out.size))
  have HZ4 : Hid (w2.heap.size ≤ (w3.setCell ⟨w.heap.size, 3, none⟩ (.slice a3 n cc)).heap.size) := Lib.hid (Nat.le_trans HZ3.out (BS.below (Nat.le_refl _) HB3.out.size).size)
  clear BS V0 V1 HO3 HB3 HZ3
  generalize w3.setCell ⟨w.heap.size, 3, none⟩ (.slice a3 n cc) = w4 at *
  go_loopw [12] (fun v16 wr => ∃ (k : Nat) (R : List Plc), v16 = .int .i64 (k : Int) ∧ k ≤ n ∧ R.length = n ∧ (R.take k).map Plc.nm = (l.take k).map Plc.nm ∧ R.drop k = l.drop k ∧ wr.ownsRow w2.heap.size 77 7 (.slice a3 n cc) n (pv R) ∧ (∀ p ∈ R.take k, PT wr p) ∧
    DV wr w.heap.size kp la lim a3 n cc ∧ DV wr (w.heap.size + 1) 0 0 0 none 0 0 ∧ Below w.heap.size w wr ∧ w2.heap.size ≤ wr.heap.size) (fun v _ => n - (intOf v).toNat)
  case atStart => exact ⟨0, l, rfl, by omega, HX.out, by simp, rfl, HO4.out, by simp, VS.out, V1S.out, HB4.out, HZ4.out⟩
  case round =>
    obtain ⟨k, R, rfl, hkn, hRl, hRt, hRd, hO, hT, hV0, hV1, hB, hz⟩ := hrel
    have HRL := Lib.hid hRl
    have HRT := Lib.hid hRt
    have HRD := Lib.hid hRd
    have HO := Lib.hid hO
    have HT := Lib.hid hT
    have V0 := Lib.hid hV0
    have V1 := Lib.hid hV1
    have HB := Lib.hid hB
    have HZ := Lib.hid hz
    clear hRl hRt hRd hO hT hV0 hV1 hB hz HO4 VS V1S HB4 HZ4
    by_cases hlt : k < n
    · obtain ⟨g, rfl, hBg, hnc, -⟩ := kown_at HO.out (by omega)
      obtain ⟨p, hp⟩ : ∃ p, R[k]? = some p := ⟨_, List.getElem?_eq_getElem (by rw [HRL.out]; exact hlt)⟩
      have HPK := Lib.hid hp
      have hlj : l[k]? = some p := by
        have h1 : (R.drop k)[0]? = some p := by rw [List.getElem?_drop]; simpa using hp
        rw [HRD.out, List.getElem?_drop] at h1
        simpa using h1
      have HLK := Lib.hid hlj
      have hmem := List.mem_of_getElem? hlj
      have hpo := (HH0.out.mem hmem).below HB.out
      have h64 := HK.out p hmem
      obtain ⟨hce, -⟩ := own_pcs HO.out hp
      clear hp hlj hmem
      obtain ⟨po, v1, v2, g1, ex, left, s1, a1, c1⟩ := p
      obtain ⟨n1, hn1⟩ : ∃ n1, s1.length = n1 := ⟨_, rfl⟩
      unfold PCs Plc.sl at hce
      simp only [hn1] at hce h64
      obtain ⟨d0, d1, d2, d3, d4, d5, d6⟩ := hce
      have HN1 := Lib.hid hn1
      have HN64 := Lib.hid h64
      clear hn1 h64
      have hj0 : (0 : Int) ≤ (k : Int) := by omega
      have hj1 : (k : Int) < (n : Int) := by omega
      have hgr := own_blk HO.out
      have HGR := Lib.hid hgr
      clear hgr
      go_wp2_with fail
      have hbn := bel1 wr (.cells #[.int .i64 po, .int .i64 v1, .int .i64 v2, .int .u32 g1, .bool ex, .int .i64 left, .slice a1 n1 c1] 77)
      have PVn := PV.new wr po v1 v2 g1 ex left a1 n1 c1
      have HPV := Lib.hid PVn
      have HPO := Lib.hid (hpo.below hbn)
      have hNg : w.heap.size ≠ g := by have := HGR.out.1; have := HZ2.out; omega
      have hMg : w.heap.size + 1 ≠ g := by have := HGR.out.1; have := HZ2.out; omega
      replace V0 := Lib.hid (V0.out.below hbn V0.out.lt)
      replace V1 := Lib.hid (V1.out.below hbn V1.out.lt)
      replace HO := Lib.hid (own_grown HO.out hbn (Nat.le_refl _))
      replace HT : Hid (∀ p ∈ R.take k, PT _ p) := Lib.hid (fun p hp => (HT.out p hp).below hbn)
      replace HZ := Lib.hid (Nat.le_trans HZ.out hbn.size)
      replace HB := Lib.hid (HB.out.trans (hbn.mono HB.out.size))
      clear hbn PVn hpo d0 d1 d2 d3 d4 d5 d6
      generalize wr.alloc (.cells #[.int .i64 po, .int .i64 v1, .int .i64 v2, .int .u32 g1, .bool ex, .int .i64 left, .slice a1 n1 c1] 77) = w5 at *
      refine wp_region_last (owV w.heap.size wr.heap.size g k n cc w2.heap.size R po v1 v2 g1 ex left s1 a1 n1 c1 w5) (fun W => Below w5.heap.size w5 W) (fun _ A B => Below A.heap.size A B) owD [17, 18, 19, 20, 21, 22, 23, 24, 25, 26] (by kernel_rfl) (by kernel_rfl) (by kernel_rfl) (by kernel_rfl) (by kernel_rfl) (by decide) (Below.refl _ w5).drew
        (fun i j oi oj v us A B hoi hoj hij hni hw hSA hr hv => ow_st _ _ _ _ _ _ _ _ _ _ _ _ _ _ _ _ _ _ _ (fun e => hni (by subst e; rfl)) hr hv)
        ⟨?_, ?_, ?_, ?_, ?_, ?_, ?_, ?_, ?_, ?_, ?_, trivial⟩ ?hend
      case refine_1 =>
        intro a' w9 hS h0 hd
        have e1 : a'.tmps[1]?.getD undef = .pointer (some ⟨w.heap.size, 0, none⟩) := vev (h0 1 (by kernel_rfl))
        refine Does2.value (.pointer (some ⟨w.heap.size, 3, none⟩)) (w' := w9) ?_ ⟨rfl, fun _ => ⟨hS, Below.refl _ _⟩⟩
        clear hS h0 hd
        go_simp
      case refine_2 =>
        intro a' w9 hS h0 hd
        have e17 : a'.tmps[17]?.getD undef = .pointer (some ⟨w.heap.size, 3, none⟩) := vev (hd 0 List.mem_cons_self)
        obtain ⟨y0, y1, y2, y3, -⟩ := (V0.out.below hS V0.out.lt).cells
        refine Does2.value (.slice (some ⟨g, 0, none⟩) n cc) (w' := w9) ?_ ⟨rfl, fun _ => ⟨hS, Below.refl _ _⟩⟩
        clear hS h0 hd
        go_simp
      case refine_3 =>
        intro a' w9 hS h0 hd
        have e3 : a'.tmps[3]?.getD undef = .int .i64 (k : Int) := vev (h0 3 (by kernel_rfl))
        refine Does2.value (.int .i64 (k : Int)) (w' := w9) ?_ ⟨rfl, fun _ => ⟨hS, Below.refl _ _⟩⟩
        clear hS h0 hd
        go_simp
      case refine_4 =>
        intro a' w9 hS h0 hd
        have e4 : a'.tmps[4]?.getD undef = .pointer (some ⟨wr.heap.size, 0, none⟩) := vev (h0 4 (by kernel_rfl))
        refine Does2.value (.pointer (some ⟨wr.heap.size, 3, none⟩)) (w' := w9) ?_ ⟨rfl, fun _ => ⟨hS, Below.refl _ _⟩⟩
        clear hS h0 hd
        go_simp
      case refine_5 =>
        intro a' w9 hS h0 hd
        have e20 : a'.tmps[20]?.getD undef = .pointer (some ⟨wr.heap.size, 3, none⟩) := vev (hd 3 List.mem_cons_self)
        refine Does2.value (.pointer (some ⟨wr.heap.size, 6, none⟩)) (w' := w9) ?_ ⟨rfl, fun _ => ⟨hS, Below.refl _ _⟩⟩
        clear hS h0 hd
        go_simp
      case refine_6 =>
        intro a' w9 hS h0 hd
        have e21 : a'.tmps[21]?.getD undef = .pointer (some ⟨wr.heap.size, 6, none⟩) := vev (hd 4 List.mem_cons_self)
        obtain ⟨y0, y1, y2, y3, y4, y5, y6, -⟩ := (HPV.out.below hS HPV.out.lt).cells
        refine Does2.value (.slice a1 n1 c1) (w' := w9) ?_ ⟨rfl, fun _ => ⟨hS, Below.refl _ _⟩⟩
        clear hS h0 hd
        go_simp
      case refine_7 =>
        intro a' w9 hS h0 hd
        have e22 : a'.tmps[22]?.getD undef = .slice a1 n1 c1 := vev (hd 5 List.mem_cons_self)
        refine Does2.call 80 #[.slice a1 n1 c1] (w' := w9) ?_ ((lCloneHd a1 n1 c1 s1 w9 HN1.out HN64.out (HPO.out.1.below hS)).mono ?_)
        · clear hS h0 hd
          go_simp
        · rintro e w8 ⟨⟨a8, c8, rfl, h8⟩, hb⟩
          exact ⟨_, rfl, ⟨a8, c8, rfl, own_ht h8 rfl HPO.out.1.2⟩, fun _ => ⟨hS.trans (hb.mono hS.size), hb⟩⟩
      case refine_8 =>
        intro a' w9 hS h0 hd
        have e18 : a'.tmps[18]?.getD undef = .slice (some ⟨g, 0, none⟩) n cc := vev (hd 1 List.mem_cons_self)
        have e19 : a'.tmps[19]?.getD undef = .int .i64 (k : Int) := vev (hd 2 (List.mem_cons_of_mem _ List.mem_cons_self))
        refine Does2.value (.pointer (some ⟨g, k * 7, none⟩)) (w' := w9) ?_ ⟨rfl, fun _ => ⟨hS, Below.refl _ _⟩⟩
        clear hS h0 hd
        go_simp
      case refine_9 =>
        intro a' w9 hS h0 hd
        have e24 : a'.tmps[24]?.getD undef = .pointer (some ⟨g, k * 7, none⟩) := vev (hd 7 List.mem_cons_self)
        refine Does2.value (.pointer (some ⟨g, k * 7 + 3, none⟩)) (w' := w9) ?_ ⟨rfl, fun _ => ⟨hS, Below.refl _ _⟩⟩
        clear hS h0 hd
        go_simp
      case refine_10 =>
        intro a' w9 hS h0 hd
        have e25 : a'.tmps[25]?.getD undef = .pointer (some ⟨g, k * 7 + 3, none⟩) := vev (hd 8 List.mem_cons_self)
        refine Does2.value (.pointer (some ⟨g, k * 7 + 6, none⟩)) (w' := w9) ?_ ⟨rfl, fun _ => ⟨hS, Below.refl _ _⟩⟩
        clear hS h0 hd
        go_simp
      case refine_11 =>
        intro a' w9 hS h0 hd
        have e26 : a'.tmps[26]?.getD undef = .pointer (some ⟨g, k * 7 + 6, none⟩) := vev (hd 9 List.mem_cons_self)
        obtain ⟨a8, c8, e23, h8⟩ := hd 6 (List.mem_cons_of_mem _ List.mem_cons_self)
        replace e23 := vev e23
        have ho := own_grown HO.out hS (Nat.le_refl _)
        obtain ⟨⟨y0, y1, y2, y3, y4, y5, y6⟩, z0, z1, z2, z3, z4, z5, z6⟩ := own_pcs ho HPK.out
        have hs := vown_set ho (k * 7 + 6) (.slice a8 s1.length c8) (by omega)
        rw [pv_set6 R k po v1 v2 g1 ex left s1 a1 c1 a8 c8 HPK.out] at hs
        have hgT := (own_blk ho).2.2
        obtain ⟨csg, hgg⟩ := hgT
        have hbt := But1.set w9 g (k * 7 + 6) (.slice a8 s1.length c8)
        refine Does2.skip (w' := w9.setCell ⟨g, k * 7 + 6, none⟩ (.slice a8 s1.length c8)) ?_ ⟨⟨a8, c8, hs, h8.ty hgg (by decide) hbt, w9, hS, hbt⟩, fun h => absurd rfl h⟩
        clear hS h0 hd h8 hs hgg hbt ho y0 y1 y2 y3 y4 y5
        go_simp
      case hend =>
        intro f w9 hv
        obtain ⟨a8, c8, ho8, h8, W, hbW, hbt⟩ := hv
        simp only [putAll, Act.put, List.setIfInBounds_toArray, List.set_cons_zero, List.set_cons_succ]
        have HO8 := Lib.hid ho8
        have H8 := Lib.hid h8
        have V08 := Lib.hid ((V0.out.below hbW V0.out.lt).but hbt hNg)
        have V18 := Lib.hid ((V1.out.below hbW V1.out.lt).but hbt hMg)
        have hgT := (own_blk (own_grown HO.out hbW (Nat.le_refl _))).2.2
        obtain ⟨csg, hgg⟩ := hgT
        have HT8 : Hid (∀ p ∈ R.take k, PT w9 p) := Lib.hid (fun p hp => ((HT.out p hp).below hbW).ty hgg (by decide) hbt)
        have HB8 := Lib.hid (HB.out.trans ((hbW.mono HB.out.size).trans (hbt.below (B := w.heap.size) (by have := HGR.out.1; have := HZ2.out; omega) (Nat.le_trans HB.out.size hbW.size))))
        have HZ8 : Hid (w2.heap.size ≤ w9.heap.size) := Lib.hid (Nat.le_trans HZ.out (Nat.le_trans hbW.size hbt.size))
        clear ho8 h8 hbW hbt hgg V0 V1 HO HT HB HZ
        go_wp2_with fail
        go_roundw
        case rel =>
          refine ⟨k + 1, R.set k ⟨po, v1, v2, g1, ex, left, s1, a8, c8⟩, by go_num, by omega, by rw [List.length_set]; exact HRL.out, ?_, ?_, HO8.out, ?_, V08.out, V18.out, HB8.out, HZ8.out⟩
          · rw [takeH (List.getElem?_set_self (by rw [HRL.out]; exact hlt)), List.take_set_of_le (by omega), List.map_append, HRT.out, takeH HLK.out, List.map_append]
            simp only [List.map_cons, List.map_nil, Plc.nm]
          · rw [List.drop_set_of_lt (by omega), ← List.drop_drop, HRD.out, List.drop_drop]
          · intro y hy
            rw [takeH (List.getElem?_set_self (by rw [HRL.out]; exact hlt)), List.take_set_of_le (by omega)] at hy
            rcases List.mem_append.1 hy with h1 | h1
            · exact HT8.out y h1
            · obtain rfl : y = _ := by simpa using h1
              exact ⟨H8.out, HPO.out.2⟩
        case measure => simp [intOf]; omega
    · obtain rfl : k = n := by omega
      have hRt : R.map Plc.nm = l.map Plc.nm := by
        have h1 := HRT.out
        rwa [List.take_of_length_le (by rw [HRL.out]; exact Nat.le_refl _), List.take_of_length_le (by rw [HX.out]; exact Nat.le_refl _)] at h1
      have hT' : ∀ p ∈ R, PT wr p := by
        have h1 := HT.out
        rwa [List.take_of_length_le (by rw [HRL.out]; exact Nat.le_refl _)] at h1
      have HRF := Lib.hid hRt
      have HTF := Lib.hid hT'
      clear hRt hT' HRT HRD HT
      obtain ⟨c0, c1, c2, c3, f0, f1, f2, f3⟩ := V0.out.cells
      obtain ⟨d0, d1, d2, d3, g0, g1, g2, g3⟩ := V1.out.cells
      go_wp2_with fail
      refine ret_cell9 (p := 2) rfl rfl rfl (V1.out.store kp la lim a3 k cc).load ?_
      have B2 := V1.out.store_but kp la lim a3 k cc
      have hx2 : wr.heap[w.heap.size + 1]? = some (.cells _ 46 (0, 0)) := V1.out
      obtain rfl : R.length = k := HRL.out
      refine ⟨⟨a3, cc, R, rfl, HRF.out, vown_le (vown_but HO.out B2 (by have := HZ2.out; omega)) (by have := HZ2.out; omega), fun p hp => (HTF.out p hp).ty hx2 (by decide) B2⟩, ?_⟩
      exact HB.out.trans (B2.below (by omega) HB.out.size)
end Go.Proofs.YtiabbkjmgaemaaaGreat
