/- Sets in memory of the call's own; the first variables of a record that is heard; keep. -/
import Derived.Test.YtllpmepmgnnoaaaGreatVe
namespace Go.Proofs.YtllpmepmgnnoaaaGreat
set_option linter.unusedVariables false
open Go.RowKit

theorem vInter (a b : Option Addr) (la lb ca cb : Nat) (xs ys : List Int) (w : World) (hx : xs.length = la) (hy : ys.length = lb) (hla : la ≤ 400000) (hlb : lb ≤ 400000) (h1 : As w a xs) (h2 : As w b ys) :
    Calls Tryz.prog 65 #[.slice a la ca, .slice b lb cb] w fun e w' => OutV w e w' (int xs ys) := by
  have H : ∀ w', Below w.heap.size w w' → Calls Tryz.prog 75 #[.slice a la ca, .slice b lb cb, .func (.func 78) #[] #[]] w' fun e w2 => OutV w' e w2 (int xs ys) := fun w' hb =>
    ((callsIn_wide (n := 5)).1 (thoseI_in a b la lb ca cb xs ys w' hx hy hla hlb (h1.below hb) (h2.below hb))).mono fun e w2 ⟨v, e1, e2, e3⟩ => by subst e1; exact outv_of e2 (those_isA h1.2 h2.2) e3
  have HH := Lib.hid H
  clear H h1 h2
  go_enter Tryz.func65, Tryz.ntmps65
  go_wp2_with (go_at_call 75; refine (HH.out _ (Below.refl _ _)).mono ?_; rintro e w2 ⟨⟨a', c', rfl, hA, hnil, hfr⟩, hB⟩; have HA := Lib.hid hA; have HB := Lib.hid hB; have HN := Lib.hid hnil; have HR := Lib.hid hfr; clear hA hB hnil hfr)
  go_ret
  exact ⟨⟨a', c', rfl, HA.out, HN.out, HR.out⟩, HB.out⟩
theorem vMinus (a b : Option Addr) (la lb ca cb : Nat) (xs ys : List Int) (w : World) (hx : xs.length = la) (hy : ys.length = lb) (hla : la ≤ 400000) (hlb : lb ≤ 400000) (h1 : As w a xs) (h2 : As w b ys) :
    Calls Tryz.prog 63 #[.slice a la ca, .slice b lb cb] w fun e w' => OutV w e w' (dif xs ys) := by
  have H : ∀ w', Below w.heap.size w w' → Calls Tryz.prog 75 #[.slice a la ca, .slice b lb cb, .func (.func 76) #[] #[]] w' fun e w2 => OutV w' e w2 (dif xs ys) := fun w' hb =>
    ((callsIn_wide (n := 5)).1 (thoseM_in a b la lb ca cb xs ys w' hx hy hla hlb (h1.below hb) (h2.below hb))).mono fun e w2 ⟨v, e1, e2, e3⟩ => by subst e1; exact outv_of e2 (those_isA h1.2 h2.2) e3
  have HH := Lib.hid H
  clear H h1 h2
  go_enter Tryz.func63, Tryz.ntmps63
  go_wp2_with (go_at_call 75; refine (HH.out _ (Below.refl _ _)).mono ?_; rintro e w2 ⟨⟨a', c', rfl, hA, hnil, hfr⟩, hB⟩; have HA := Lib.hid hA; have HB := Lib.hid hB; have HN := Lib.hid hnil; have HR := Lib.hid hfr; clear hA hB hnil hfr)
  go_ret
  exact ⟨⟨a', c', rfl, HA.out, HN.out, HR.out⟩, HB.out⟩
theorem mk3 (w : World) (g : Int) (ex : Bool) (left : Int) (a : Option Addr) (n c : Nat) (k la : Int) (aq : Option Addr) (nq cq : Nat) (b : Option Addr) (ln lc : Nat) (W : World)
    (hW : W = ((w.alloc (.cells #[.int .u32 g, .bool ex, .int .i64 left, .slice a n c, .int .i64 k, .int .i64 la, .slice aq nq cq] 58)).alloc (.cells #[.slice b ln lc] 29)).alloc (.cells #[.int .u32 0, .bool false, .int .i64 0, .slice none 0 0, .int .i64 0, .int .i64 0, .slice none 0 0] 58)) :
    W.heap.size = w.heap.size + 3 ∧ HV W w.heap.size g ex left a n c k la aq nq cq ∧ W.cell? ⟨w.heap.size + 1, 0, none⟩ = some (.slice b ln lc) ∧ HV W (w.heap.size + 2) 0 false 0 none 0 0 0 0 none 0 0 ∧ Below w.heap.size w W := by
  subst hW
  have e1 : (w.alloc (.cells #[.int .u32 g, .bool ex, .int .i64 left, .slice a n c, .int .i64 k, .int .i64 la, .slice aq nq cq] 58)).heap.size = w.heap.size + 1 := World.size_alloc _ _
  have e2 : ((w.alloc (.cells #[.int .u32 g, .bool ex, .int .i64 left, .slice a n c, .int .i64 k, .int .i64 la, .slice aq nq cq] 58)).alloc (.cells #[.slice b ln lc] 29)).heap.size = w.heap.size + 2 := by rw [World.size_alloc, e1]
  have v0 := HV.new w g ex left a n c k la aq nq cq
  have v2 := HV.new ((w.alloc (.cells #[.int .u32 g, .bool ex, .int .i64 left, .slice a n c, .int .i64 k, .int .i64 la, .slice aq nq cq] 58)).alloc (.cells #[.slice b ln lc] 29)) 0 false 0 none 0 0 0 0 none 0 0
  rw [e2] at v2
  have l1 := Go.Deep.blk_alloc_new (w.alloc (.cells #[.int .u32 g, .bool ex, .int .i64 left, .slice a n c, .int .i64 k, .int .i64 la, .slice aq nq cq] 58)) (.cells #[.slice b ln lc] 29)
  rw [e1] at l1
  refine ⟨by rw [World.size_alloc, e2], (v0.keep _).keep _, ?_, v2, (((Below.refl _ w).alloc (Nat.le_refl _) _).alloc (by rw [e1]; omega) _).alloc (by rw [e2]; omega) _⟩
  have l2 := v_blk l1 (.cells #[.int .u32 0, .bool false, .int .i64 0, .slice none 0 0, .int .i64 0, .int .i64 0, .slice none 0 0] 58)
  simp only [World.cell?, l2]
  rfl
theorem mk2 (w : World) (g : Int) (ex : Bool) (left : Int) (a : Option Addr) (n c : Nat) (k la : Int) (aq : Option Addr) (nq cq : Nat) (W : World)
    (hW : W = (w.alloc (.cells #[.int .u32 g, .bool ex, .int .i64 left, .slice a n c, .int .i64 k, .int .i64 la, .slice aq nq cq] 58)).alloc (.cells #[.int .u32 0, .bool false, .int .i64 0, .slice none 0 0, .int .i64 0, .int .i64 0, .slice none 0 0] 58)) :
    W.heap.size = w.heap.size + 2 ∧ HV W w.heap.size g ex left a n c k la aq nq cq ∧ HV W (w.heap.size + 1) 0 false 0 none 0 0 0 0 none 0 0 ∧ Below w.heap.size w W := by
  subst hW
  have e1 : (w.alloc (.cells #[.int .u32 g, .bool ex, .int .i64 left, .slice a n c, .int .i64 k, .int .i64 la, .slice aq nq cq] 58)).heap.size = w.heap.size + 1 := World.size_alloc _ _
  have v0 := HV.new w g ex left a n c k la aq nq cq
  have v2 := HV.new (w.alloc (.cells #[.int .u32 g, .bool ex, .int .i64 left, .slice a n c, .int .i64 k, .int .i64 la, .slice aq nq cq] 58)) 0 false 0 none 0 0 0 0 none 0 0
  rw [e1] at v2
  exact ⟨by rw [World.size_alloc, e1], v0.keep _, v2, ((Below.refl _ w).alloc (Nat.le_refl _) _).alloc (by rw [e1]; omega) _⟩
theorem keepR_ins {s : List Hd} {xs : List Int} {T : Int} (h : InS s) (hx : ∀ x ∈ xs, 0 ≤ x ∧ x ≤ 4294967295) (hT : -9223372036854775808 ≤ T ∧ T ≤ 9223372036854775807) : InS (keepR s xs T) := by
  intro x hm
  unfold keepR at hm
  rcases List.mem_append.1 hm with h1 | h1
  · exact h x (List.mem_filter.1 h1).1
  · obtain ⟨a, ha, rfl⟩ := List.mem_map.1 h1
    exact ⟨hx a ha, hT⟩
theorem keepR_len (s : List Hd) (xs : List Int) (T : Int) : (keepR s xs T).length ≤ s.length + xs.length := by
  unfold keepR
  rw [List.length_append, List.length_map]
  have := List.length_filter_le (fun x : Hd => !decide (x.1 ∈ xs)) s
  omega
/-- What is handed back of a record that is heard: its sources anew. -/
def OutHr (w : World) (e : Ending) (w' : World) (g : Int) (ex : Bool) (left : Int) (s : List Hd) (k la : Int) (q : Value) : Prop :=
  (∃ a c, e = .returned (.agg #[.int .u32 g, .bool ex, .int .i64 left, .slice a s.length c, .int .i64 k, .int .i64 la, q]) ∧ HT w' a s) ∧ Below w.heap.size w w'
set_option maxRecDepth 100000 in
set_option maxHeartbeats 8000000 in
theorem mKeep (g : Int) (ex : Bool) (left : Int) (a : Option Addr) (n c : Nat) (kp la : Int) (aq : Option Addr) (nq cq : Nat) (s : List Hd) (b : Option Addr) (ln lc : Nat) (xs : List Int) (T : Int) (w : World)
    (hx : s.length = n) (hn : n ≤ 100000) (hH : Hs w a s) (hi : Inc (ad s)) (hl : xs.length = ln) (hln : ln ≤ 100000) (hA : As w b xs) (hxi : Inc xs) (hT : -9223372036854775808 ≤ T ∧ T ≤ 9223372036854775807) :
    Calls Tryz.prog 60 #[.agg #[.int .u32 g, .bool ex, .int .i64 left, .slice a n c, .int .i64 kp, .int .i64 la, .slice aq nq cq], .slice b ln lc, .int .i64 T] w fun e w' => OutHr w e w' g ex left (keepS s xs T) kp la (.slice aq nq cq) := by
  obtain ⟨i0, hi0, hz0, hz1, hz2⟩ := info_parts infoHd
  have HX := Lib.hid hx
  have HH := Lib.hid hH
  have HI := Lib.hid hi
  have HL := Lib.hid hl
  have HA := Lib.hid hA
  have HXI := Lib.hid hxi
  have HT := Lib.hid hT
  clear hx hH hi hl hA hxi hT
  go_enter Tryz.func60, Tryz.ntmps60
  go_wp2_with fail
  obtain ⟨w3, hw3⟩ : ∃ w3, w3 = ((w.alloc (.cells #[.int .u32 g, .bool ex, .int .i64 left, .slice a n c, .int .i64 kp, .int .i64 la, .slice aq nq cq] 58)).alloc (.cells #[.slice b ln lc] 29)).alloc (.cells #[.int .u32 0, .bool false, .int .i64 0, .slice none 0 0, .int .i64 0, .int .i64 0, .slice none 0 0] 58) := ⟨_, rfl⟩
  obtain ⟨hs3, v0, l1, v2, hB3⟩ := mk3 w g ex left a n c kp la aq nq cq b ln lc w3 hw3
  rw [← hw3]
  have HS3 := Lib.hid hs3
  have HB3 := Lib.hid hB3
  have V0 := Lib.hid v0
  have L1 := Lib.hid l1
  have V2 := Lib.hid v2
  clear hw3 hs3 v0 l1 v2 hB3
  refine (mThoseK (.pointer (some ⟨w.heap.size + 1, 0, none⟩)) (fun x => !decide (x.1 ∈ xs)) a n c s w3 HX.out hn (HH.out.below HB3.out) (fun w1 x hb _ => cKeep (w.heap.size + 1) b ln lc xs x w1 HL.out (by omega) ((hb.cell (cell_lt L1.out)).trans L1.out) ((HA.out.below HB3.out).below hb))).mono ?_
  rintro e w4 ⟨⟨a4, c4, rfl, ho4⟩, hb4⟩
  rw [HS3.out] at ho4 hb4
  have HO4 := Lib.hid ho4
  have HB4 := Lib.hid (HB3.out.trans (hb4.mono (by omega)))
  have V04 := Lib.hid (V0.out.below hb4 (by omega))
  have V24 := Lib.hid (V2.out.below hb4 (by omega))
  have L14 := Lib.hid ((hb4.cell (p := ⟨w.heap.size + 1, 0, none⟩) (by show w.heap.size + 1 < _; omega)).trans L1.out)
  have HZ4 : Hid (w.heap.size + 3 ≤ w4.heap.size) := Lib.hid (by have := hb4.size; rw [HS3.out] at this; exact this)
  clear ho4 hb4 V0 L1 V2 HB3
  obtain ⟨c0, c1, c2, c3, c4', c5, c6, f0, f1, f2, f3, f4, f5, f6⟩ := V04.out.cells
  have lb := L14.out
  go_wp2
  have VS := Lib.hid (V04.out.set3 a4 (s.filter fun x => !decide (x.1 ∈ xs)).length c4)
  have BS := But1.set w4 w.heap.size 3 (.slice a4 (s.filter fun x => !decide (x.1 ∈ xs)).length c4)
  have HOS := Lib.hid (vown_but HO4.out BS (by omega))
  have V2S := Lib.hid (V24.out.but BS (by omega))
  have HBS := Lib.hid (HB4.out.trans (BS.below (Nat.le_refl _) HB4.out.size))
  have HZS : Hid (w.heap.size + 3 ≤ (w4.setCell ⟨w.heap.size, 3, none⟩ (.slice a4 (s.filter fun x => !decide (x.1 ∈ xs)).length c4)).heap.size) := Lib.hid (Nat.le_trans HZ4.out BS.size)
  clear c0 c1 c2 c3 c4' c5 c6 f0 f1 f2 f3 f4 f5 f6 lb BS HO4 V04 V24 HB4 L14 HZ4
  generalize w4.setCell ⟨w.heap.size, 3, none⟩ (.slice a4 (s.filter fun x => !decide (x.1 ∈ xs)).length c4) = w5 at *
  go_loopw [18] (fun v18 wr => ∃ (k : Nat) (a5 : Option Addr) (n5 c5 : Nat), v18 = .int .i64 (k : Int) ∧ k ≤ ln ∧ n5 = (s.filter (fun x => !decide (x.1 ∈ xs)) ++ (xs.take k).map fun x => (x, T)).length ∧ wr.ownsRow (w.heap.size + 3) 50 2 (.slice a5 n5 c5) n5 (hv (s.filter (fun x => !decide (x.1 ∈ xs)) ++ (xs.take k).map fun x => (x, T))) ∧
    HV wr w.heap.size g ex left a5 n5 c5 kp la aq nq cq ∧ HV wr (w.heap.size + 2) 0 false 0 none 0 0 0 0 none 0 0 ∧ Below w.heap.size w wr ∧ w.heap.size + 3 ≤ wr.heap.size) (fun v _ => ln - (intOf v).toNat)
  case atStart => exact ⟨0, a4, _, c4, rfl, by omega, by simp, by simpa using HOS.out, VS.out, V2S.out, HBS.out, HZS.out⟩
  case round =>
    clear HOS VS V2S HBS HZS
    obtain ⟨k, a5, n5, c5, rfl, hk, hn5, ho, hv0, hv2, hB, hZ⟩ := hrel
    have HN5 := Lib.hid hn5
    have HO := Lib.hid ho
    have V0 := Lib.hid hv0
    have V2 := Lib.hid hv2
    have HB := Lib.hid hB
    have HZ := Lib.hid hZ
    have hol : n5 ≤ 200000 := by
      rw [hn5, List.length_append, List.length_map]
      have h1 := List.length_filter_le (fun x : Hd => !decide (x.1 ∈ xs)) s
      have h2 := List.length_take_le' k xs
      have h3 := HX.out
      have h4 := HL.out
      omega
    clear hn5 ho hv0 hv2 hB hZ
    obtain ⟨c0, c1, c2, c3, c4', c5', c6, f0, f1, f2, f3, f4, f5, f6⟩ := V0.out.cells
    by_cases hlt : k < ln
    · obtain ⟨b', off, rfl, hc⟩ := HA.out.at (k := k) (by rw [HL.out]; exact hlt)
      have d0 := (HB.out.cell (cell_lt (hc k (by rw [HL.out]; exact hlt)))).trans (hc k (by rw [HL.out]; exact hlt))
      have hkz : (k : Int) < (ln : Int) := by omega
      have HTK : Hid (xs.take (k + 1) = xs.take k ++ [xs.getD k 0]) := Lib.hid (takeH (by simp [List.getD_eq_getElem?_getD, HL.out, hlt]))
      clear hc
      generalize hy : xs.getD k 0 = y at *
      clear hy
      have hn1 := news_new wr [.int .u32 y, .int .i64 T] 50
      have HN1 := Lib.hid hn1
      clear hn1
      go_wp2_with ((refine wpList_app_cell rfl 26 50 i0 _ 2 16 Tryz.underlying26 hi0 hz0 hz1 hz2 rfl (by decide) (by omega) (.tmp 24) (.tmp 28) rfl (w.heap.size + 3) _ n5 (hv (s.filter (fun x => !decide (x.1 ∈ xs)) ++ (xs.take k).map fun x => (x, T))) rfl (HO.out.alloc _) ⟨wr.heap.size, 0, none⟩ 1 [.int .u32 y, .int .i64 T] rfl rfl HN1.out (by simp [Value.oneCell']) (by omega) (by have := HZ.out; simp; omega) ?_; intro a' cap' w' hown hg; have hbb : Hid (Below (w.heap.size + 3) wr w') := Lib.hid (((Below.refl _ wr).alloc HZ.out _).trans (grown_below (HO.out.alloc _) hg.out (by have := HZ.out; simp; omega))); have V0' := Lib.hid (V0.out.below hbb.out (by omega)); have V2' := Lib.hid (V2.out.below hbb.out (by omega)); clear c0 c1 c2 c3 c4' c5' c6 f0 f1 f2 f3 f4 f5 f6 d0; obtain ⟨c0, c1, c2, c3, c4', c5', c6, f0, f1, f2, f3, f4, f5, f6⟩ := V0'.out.cells))
      go_roundw
      case rel =>
        have BS := But1.set w' w.heap.size 3 (.slice a' (n5 + 1) cap')
        have e : s.filter (fun x => !decide (x.1 ∈ xs)) ++ (xs.take (k + 1)).map (fun x => (x, T)) = (s.filter (fun x => !decide (x.1 ∈ xs)) ++ (xs.take k).map fun x => (x, T)) ++ [(y, T)] := by rw [HTK.out]; simp
        refine ⟨k + 1, a', n5 + 1, cap', by go_num, by omega, by rw [e, List.length_append, ← HN5.out]; rfl, ?_, V0'.out.set3 a' (n5 + 1) cap', V2'.out.but BS (by omega), HB.out.trans ((hbb.out.mono (by omega)).trans (BS.below (Nat.le_refl _) (Nat.le_trans (by have := HB.out.size; omega) hbb.out.size))), Nat.le_trans (Nat.le_trans HZ.out hbb.out.size) BS.size⟩
        rw [e, hv_append, hv_one']
        exact vown_but hown.out BS (by omega)
      case measure => simp [intOf]; omega
    · obtain rfl : k = ln := by omega
      have htk : xs.take k = xs := List.take_of_length_le (by rw [HL.out]; exact Nat.le_refl _)
      have HN5' := HN5.out
      have HO' := HO.out
      rw [htk] at HN5' HO'
      obtain rfl : n5 = (keepR s xs T).length := HN5'
      have HO2 : Hid (wr.ownsRow (w.heap.size + 3) 50 2 (.slice a5 (keepR s xs T).length c5) (keepR s xs T).length (hv (keepR s xs T))) := Lib.hid HO'
      clear HO HN5 HO' htk
      go_wp2_with fail
      refine (mSort w.heap.size (w.heap.size + 3) c5 a5 (keepR s xs T) wr HO2.out HZ.out V0.out.cells.2.2.2.1 (by omega) (keepR_ins HH.out.2 (isA_iff.1 HA.out.2) HT.out) (keepR_nodup T HI.out HXI.out) (by omega)).mono ?_
      rintro e w6 ⟨rfl, d, hp, hinc, hHd, hb6⟩
      obtain rfl := keep_sorted HI.out HXI.out hp hinc
      have HLE := Lib.hid hp.length_eq
      have HD := Lib.hid hHd
      have HB6 := Lib.hid (HB.out.trans (hb6.mono (by omega)))
      have V06 := Lib.hid (V0.out.below hb6 (by omega))
      have V26 := Lib.hid (V2.out.below hb6 (by omega))
      clear c0 c1 c2 c3 c4' c5' c6 f0 f1 f2 f3 f4 f5 f6 hp hinc hHd hb6 V0 V2 HB HO2 HZ
      obtain ⟨c0, c1, c2, c3, c4', c5', c6, f0, f1, f2, f3, f4, f5, f6⟩ := V06.out.cells
      obtain ⟨d0, d1, d2, d3, d4, d5, d6, e0, e1, e2, e3, e4, e5, e6⟩ := V26.out.cells
      go_wp2_with fail
      refine ret_cell1 (p := 6) rfl rfl rfl (V26.out.store g ex left a5 (keepR s xs T).length c5 kp la aq nq cq).load ?_
      have BS := V26.out.store_but g ex left a5 (keepR s xs T).length c5 kp la aq nq cq
      refine ⟨⟨a5, c5, by rw [HLE.out], HD.out.other V26.out.noH BS⟩, HB6.out.trans (BS.below (by omega) HB6.out.size)⟩
end Go.Proofs.YtllpmepmgnnoaaaGreat
