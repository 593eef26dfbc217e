/- The document's Tick. -/
import Derived.Test.YtllpmepmgnnoaaaGreatZb
namespace Go.Proofs.YtllpmepmgnnoaaaGreat
set_option linter.unusedVariables false
open Go.RowKit

theorem tkS_yes {ex : Bool} {left n : Int} {s : List Hd} {k : Nat} {x : Hd} (h : s[k]? = some x) (hp : tkE ex left n = true ∨ n < x.2) : tkS ex left (s.take (k + 1)) n = tkS ex left (s.take k) n ++ [(x.1, max (x.2 - n) 0)] := by
  unfold tkS
  rw [takeH h, List.filter_append, List.map_append]
  have : (tkE ex left n || decide (n < x.2)) = true := by rcases hp with h | h <;> simp [h]
  simp [this]
theorem tkS_no {ex : Bool} {left n : Int} {s : List Hd} {k : Nat} {x : Hd} (h : s[k]? = some x) (hp : tkE ex left n = false) (hq : ¬ n < x.2) : tkS ex left (s.take (k + 1)) n = tkS ex left (s.take k) n := by
  unfold tkS
  rw [takeH h, List.filter_append, List.map_append]
  simp [hp, hq]
theorem tkS_len (ex : Bool) (left n : Int) (s : List Hd) : (tkS ex left s n).length ≤ s.length := by
  unfold tkS; rw [List.length_map]; exact List.length_filter_le _ _
theorem mkTk (w : World) (g : Int) (ex : Bool) (left : Int) (a : Option Addr) (n c : Nat) (E : Bool) (L : Int) (W : World)
    (hW : W = ((w.alloc (.cells #[.int .u32 g, .bool ex, .int .i64 left, .slice a n c] 28)).alloc (.cells #[.int .u32 0, .bool false, .int .i64 0, .slice none 0 0] 28)).alloc (.cells #[.int .u32 g, .bool E, .int .i64 L, .slice none 0 0] 28)) :
    W.heap.size = w.heap.size + 3 ∧ MV W w.heap.size g ex left a n c ∧ MV W (w.heap.size + 1) 0 false 0 none 0 0 ∧ MV W (w.heap.size + 1 + 1) g E L none 0 0 ∧ Below w.heap.size w W := by
  obtain ⟨h1, h2, h3, h4⟩ := mk2m w g ex left a n c _ rfl
  subst hW
  have v2 := MV.new ((w.alloc (.cells #[.int .u32 g, .bool ex, .int .i64 left, .slice a n c] 28)).alloc (.cells #[.int .u32 0, .bool false, .int .i64 0, .slice none 0 0] 28)) g E L none 0 0
  rw [h1] at v2
  exact ⟨by rw [World.size_alloc, h1], h2.keep _, h3.keep _, v2, h4.alloc (by rw [h1]; omega) _⟩
set_option maxRecDepth 100000 in
set_option maxHeartbeats 16000000 in
theorem zTick (g : Int) (ex : Bool) (left : Int) (a : Option Addr) (n c : Nat) (s : List Hd) (t0 : Int) (w : World)
    (hx : s.length = n) (hm : n ≤ 100000) (hH : Hs w a s) (hnn : ∀ x ∈ s, 0 ≤ x.2 ∧ x.2 ≤ 1000000) (hl : (0 ≤ left ∧ left ≤ 1000000) ∧ (ex = false → left = 0)) (ht : -9223372036854775808 ≤ t0 ∧ t0 ≤ 9223372036854775807) :
    Calls Tryz.prog 20 #[.agg #[.int .u32 g, .bool ex, .int .i64 left, .slice a n c], .int .i64 t0] w fun e w' => OutM w e w' g (tkE ex left (max t0 0)) (max (left - max t0 0) 0) (tkS ex left s (max t0 0)) := by
  obtain ⟨i0, hi0, hz0, hz1, hz2⟩ := info_parts infoHd
  have HX := Lib.hid hx
  have HH := Lib.hid hH
  have HBD := Lib.hid hnn
  have HLF := Lib.hid hl
  clear hx hH hnn hl
  have main : ∀ t : Int, 0 ≤ t → t ≤ 9223372036854775807 → max t0 0 = t → (t0 ≤ 0 ∧ t = 0 ∨ 0 < t0 ∧ t = t0) → Calls Tryz.prog 20 #[.agg #[.int .u32 g, .bool ex, .int .i64 left, .slice a n c], .int .i64 t0] w fun e w' => OutM w e w' g (tkE ex left t) (max (left - t) 0) (tkS ex left s t) := by
    intro t h0 h1 h2 h3
    have HT : Hid (0 ≤ t ∧ t ≤ 9223372036854775807) := Lib.hid ⟨h0, h1⟩
    obtain ⟨L, hL⟩ : ∃ L, max (left - t) 0 = L := ⟨_, rfl⟩
    obtain ⟨E, hE⟩ : ∃ E, tkE ex left t = E := ⟨_, rfl⟩
    rw [hL, hE]
    have HFIN : Hid (∀ (e : Ending) (w' : World) (a' : Option Addr) (c' : Nat) (l : List Hd), l = tkS ex left s t → e = .returned (.agg #[.int .u32 g, .bool E, .int .i64 L, .slice a' l.length c']) → Go.Proofs.YtllpmepmgnnoaaaGreat.HT w' a' l → Below w.heap.size w w' → OutM w e w' g E L (tkS ex left s t)) := Lib.hid (by
      intro e w' a' c' l hl he hh hb
      rw [← hl]
      exact ⟨⟨a', c', he, hh⟩, hb⟩)
    have HE := Lib.hid hE
    have HL := Lib.hid hL
    clear h0 h1 h2
    go_enter Tryz.func20, Tryz.ntmps20
    rcases h3 with ⟨h3, rfl⟩ | ⟨h3, rfl⟩
    · cases ex
      · obtain rfl : false = E := HE.out
        obtain rfl : left = 0 := HLF.out.2 rfl
        obtain rfl : 0 = L := by have := HL.out; have := HT.out; omega
        go_wp2
        obtain ⟨w3, hw3⟩ : ∃ w3, w3 = ((w.alloc (.cells #[.int .u32 g, .bool false, .int .i64 0, .slice a n c] 28)).alloc (.cells #[.int .u32 0, .bool false, .int .i64 0, .slice none 0 0] 28)).alloc (.cells #[.int .u32 g, .bool false, .int .i64 0, .slice none 0 0] 28) := ⟨_, rfl⟩
        obtain ⟨hs3, v0, v1, v5, hb3⟩ := mkTk w g false 0 a n c false 0 w3 hw3
        rw [← hw3]
        have HS3 := Lib.hid hs3
        have V0S := Lib.hid v0
        have V1S := Lib.hid v1
        have V5S := Lib.hid v5
        have HB3 := Lib.hid hb3
        clear hw3 hs3 v0 v1 v5 hb3
        go_loopw [6] (fun v6 wr => ∃ (k : Nat) (a5 : Option Addr) (n5 c5 : Nat), v6 = .int .i64 (k : Int) ∧ k ≤ n ∧ n5 = (tkS false 0 (s.take k) 0).length ∧ wr.ownsRow (w.heap.size + 3) 50 2 (.slice a5 n5 c5) n5 (hv (tkS false 0 (s.take k) 0)) ∧
          MV wr (w.heap.size + 1 + 1) g false 0 a5 n5 c5 ∧ MV wr w.heap.size g false 0 a n c ∧ MV wr (w.heap.size + 1) 0 false 0 none 0 0 ∧ Below w.heap.size w wr ∧ w.heap.size + 3 ≤ wr.heap.size) (fun v _ => n - (intOf v).toNat)
        case atStart => exact ⟨0, none, 0, 0, rfl, by omega, by simp [tkS], by simpa [tkS, hv] using World.ownsRow_nil _ _ _ _, V5S.out, V0S.out, V1S.out, HB3.out, by rw [HS3.out]; exact Nat.le_refl _⟩
        case round =>
          clear V0S V1S V5S HB3 HS3
          obtain ⟨k, a5, n5, c5, rfl, hk, hn5, ho, hv5, hv0, hv1, hB, hZ⟩ := hrel
          have HN5 := Lib.hid hn5
          have HO := Lib.hid ho
          have V5 := Lib.hid hv5
          have V0 := Lib.hid hv0
          have V1 := Lib.hid hv1
          have HB := Lib.hid hB
          have HZ := Lib.hid hZ
          have hol : n5 ≤ 100000 := by rw [hn5]; exact Nat.le_trans (tkS_len _ _ _ _) (Nat.le_trans (List.length_take_le' _ _) (by rw [HX.out]; exact hm))
          clear hn5 ho hv5 hv0 hv1 hB hZ
          obtain ⟨c0, c1, c2, c3, f0, f1, f2, f3⟩ := V5.out.cells
          obtain ⟨z0, z1, z2, z3, -⟩ := V0.out.cells
          by_cases hlt : k < n
          · obtain ⟨b, off, rfl, hc⟩ := HH.out.at (k := k) (by rw [HX.out]; exact hlt)
            obtain ⟨⟨x1, x2⟩, hfk⟩ : ∃ x, s[k]? = some x := ⟨_, List.getElem?_eq_getElem (by rw [HX.out]; exact hlt)⟩
            obtain ⟨d0, d1⟩ := (hc k _ hfk).below HB.out
            simp only at d0 d1
            have HFK := Lib.hid hfk
            have hbd := HBD.out (x1, x2) (List.mem_of_getElem? hfk)
            simp only at hbd
            have ht0 := HT.out
            have hkz : (k : Int) < (n : Int) := by omega
            have k0 : (0 : Int) ≤ (k : Int) := by omega
            clear hc hfk
            obtain ⟨mm0, mm1, mm2, mm3, ll0, ll1, ll2, ll3⟩ := (V5.out.keep (.cells #[.int .u32 x1, .int .i64 x2] 50)).cells
            by_cases hgt : 0 < x2
            · have HYES : Hid (tkE false 0 0 = true ∨ 0 < ((x1, x2) : Hd).2) := Lib.hid (.inr hgt)
              have HVAL : Hid (max (x2 - 0) 0 = x2) := Lib.hid (by omega)
              have hwr := vwrap (x := x2) (by omega) (by omega)
              clear hbd ht0
              have hn1 := news_new (wr.alloc (.cells #[.int .u32 x1, .int .i64 x2] 50)) [.int .u32 x1, .int .i64 x2] 50
              rw [World.size_alloc] at hn1
              have HN1 := Lib.hid hn1
              clear hn1
              go_wp2_with ((refine wpList_app_cell rfl 26 50 i0 _ 2 16 Tryz.underlying26 hi0 hz0 hz1 hz2 rfl (by decide) (by omega) (.tmp 44) (.tmp 52) rfl (w.heap.size + 3) _ n5 (hv (tkS false 0 (s.take k) 0)) rfl ((HO.out.alloc _).alloc _) ⟨wr.heap.size + 1, 0, none⟩ 1 [.int .u32 x1, .int .i64 x2] rfl rfl HN1.out (by simp [Value.oneCell']) (by omega) (by have := HZ.out; simp; omega) ?_; intro a' cap' w' hown hg; have hbb : Hid (Below (w.heap.size + 3) wr w') := Lib.hid ((((Below.refl _ wr).alloc HZ.out _).alloc (by have := HZ.out; simp; omega) _).trans (grown_below ((HO.out.alloc _).alloc _) hg.out (by have := HZ.out; simp; omega))); have V5' := Lib.hid (V5.out.below hbb.out (by omega)); have V0' := Lib.hid (V0.out.below hbb.out (by omega)); have V1' := Lib.hid (V1.out.below hbb.out (by omega)); clear c0 c1 c2 c3 f0 f1 f2 f3 z0 z1 z2 z3 d0 d1 mm0 mm1 mm2 mm3 ll0 ll1 ll2 ll3; obtain ⟨c0, c1, c2, c3, f0, f1, f2, f3⟩ := V5'.out.cells; obtain ⟨z0, z1, z2, z3, -⟩ := V0'.out.cells))
              go_roundw
              case rel =>
                have BS := But1.set w' (w.heap.size + 1 + 1) 3 (.slice a' (n5 + 1) cap')
                have e := tkS_yes (n := 0) HFK.out HYES.out
                simp only at e
                rw [HVAL.out] at e
                refine ⟨k + 1, a', n5 + 1, cap', by go_num, by omega, by rw [e, List.length_append, ← HN5.out]; rfl, ?_, V5'.out.set3 a' (n5 + 1) cap', V0'.out.but BS (by omega), V1'.out.but BS (by omega), HB.out.trans ((hbb.out.mono (by omega)).trans (BS.below (by omega) (Nat.le_trans (by have := HB.out.size; omega) hbb.out.size))), Nat.le_trans (Nat.le_trans HZ.out hbb.out.size) BS.size⟩
                rw [e, hv_append, hv_one']
                exact vown_but hown.out BS (by omega)
              case measure => simp [intOf]; omega
            · have hgt' : decide (0 < x2) = false := decide_eq_false hgt
              have e := Lib.hid (tkS_no (ex := false) (left := 0) HFK.out HE.out hgt)
              clear hbd ht0 hgt
              go_wp2
              go_roundw
              case rel => exact ⟨k + 1, a5, n5, c5, by go_num, by omega, by rw [e.out]; exact HN5.out, by rw [e.out]; exact HO.out.alloc _, V5.out.keep _, V0.out.keep _, V1.out.keep _, HB.out.alloc HB.out.size _, by have := HZ.out; simp; omega⟩
              case measure => simp [intOf]; omega
          · obtain rfl : k = n := by omega
            have htk : s.take k = s := List.take_of_length_le (by rw [HX.out]; exact Nat.le_refl _)
            have HO' := HO.out
            have HN' := HN5.out
            rw [htk] at HO' HN'
            have HHT := Lib.hid (own_ht HO' HN'.symm (fun x hx => by
              obtain ⟨y, hy, rfl⟩ := List.mem_map.1 hx
              have h1 := HH.out.2 y (List.mem_filter.1 hy).1
              have h2 := HBD.out y (List.mem_filter.1 hy).1
              have h3 := HT.out
              exact ⟨h1.1, by simp only; omega, by simp only; omega⟩))
            have HN := Lib.hid HN'
            clear HO HO' HN' HN5 htk
            obtain ⟨y0, y1, y2, y3, g0, g1, g2, g3⟩ := V1.out.cells
            go_wp2_with fail
            refine ret_cell1 (p := 4) rfl rfl rfl (V1.out.store g false 0 a5 n5 c5).load ?_
            have BS := V1.out.store_but g false 0 a5 n5 c5
            exact HFIN.out _ _ a5 c5 _ rfl (by rw [← HN.out]) (HHT.out.other V1.out.noH BS) (HB.out.trans (BS.below (by omega) HB.out.size))
      · by_cases hc : 0 < left
        · obtain rfl : true = E := by rw [← HE.out]; unfold tkE; simp; omega
          obtain rfl : left = L := by rw [← HL.out]; omega
          have hwl := vwrap (x := left) (by have := HT.out; have := HLF.out; omega) (by have := HT.out; have := HLF.out; omega)
          go_wp2
          obtain ⟨w3, hw3⟩ : ∃ w3, w3 = ((w.alloc (.cells #[.int .u32 g, .bool true, .int .i64 left, .slice a n c] 28)).alloc (.cells #[.int .u32 0, .bool false, .int .i64 0, .slice none 0 0] 28)).alloc (.cells #[.int .u32 g, .bool true, .int .i64 left, .slice none 0 0] 28) := ⟨_, rfl⟩
          obtain ⟨hs3, v0, v1, v5, hb3⟩ := mkTk w g true left a n c true left w3 hw3
          rw [← hw3]
          have HS3 := Lib.hid hs3
          have V0S := Lib.hid v0
          have V1S := Lib.hid v1
          have V5S := Lib.hid v5
          have HB3 := Lib.hid hb3
          clear hw3 hs3 v0 v1 v5 hb3
          go_loopw [6] (fun v6 wr => ∃ (k : Nat) (a5 : Option Addr) (n5 c5 : Nat), v6 = .int .i64 (k : Int) ∧ k ≤ n ∧ n5 = (tkS true left (s.take k) 0).length ∧ wr.ownsRow (w.heap.size + 3) 50 2 (.slice a5 n5 c5) n5 (hv (tkS true left (s.take k) 0)) ∧
            MV wr (w.heap.size + 1 + 1) g true left a5 n5 c5 ∧ MV wr w.heap.size g true left a n c ∧ MV wr (w.heap.size + 1) 0 false 0 none 0 0 ∧ Below w.heap.size w wr ∧ w.heap.size + 3 ≤ wr.heap.size) (fun v _ => n - (intOf v).toNat)
          case atStart => exact ⟨0, none, 0, 0, rfl, by omega, by simp [tkS], by simpa [tkS, hv] using World.ownsRow_nil _ _ _ _, V5S.out, V0S.out, V1S.out, HB3.out, by rw [HS3.out]; exact Nat.le_refl _⟩
          case round =>
            clear V0S V1S V5S HB3 HS3
            obtain ⟨k, a5, n5, c5, rfl, hk, hn5, ho, hv5, hv0, hv1, hB, hZ⟩ := hrel
            have HN5 := Lib.hid hn5
            have HO := Lib.hid ho
            have V5 := Lib.hid hv5
            have V0 := Lib.hid hv0
            have V1 := Lib.hid hv1
            have HB := Lib.hid hB
            have HZ := Lib.hid hZ
            have hol : n5 ≤ 100000 := by rw [hn5]; exact Nat.le_trans (tkS_len _ _ _ _) (Nat.le_trans (List.length_take_le' _ _) (by rw [HX.out]; exact hm))
            clear hn5 ho hv5 hv0 hv1 hB hZ
            obtain ⟨c0, c1, c2, c3, f0, f1, f2, f3⟩ := V5.out.cells
            obtain ⟨z0, z1, z2, z3, -⟩ := V0.out.cells
            by_cases hlt : k < n
            · obtain ⟨b, off, rfl, hc⟩ := HH.out.at (k := k) (by rw [HX.out]; exact hlt)
              obtain ⟨⟨x1, x2⟩, hfk⟩ : ∃ x, s[k]? = some x := ⟨_, List.getElem?_eq_getElem (by rw [HX.out]; exact hlt)⟩
              obtain ⟨d0, d1⟩ := (hc k _ hfk).below HB.out
              simp only at d0 d1
              have HFK := Lib.hid hfk
              have hbd := HBD.out (x1, x2) (List.mem_of_getElem? hfk)
              simp only at hbd
              have ht0 := HT.out
              have hkz : (k : Int) < (n : Int) := by omega
              have k0 : (0 : Int) ≤ (k : Int) := by omega
              clear hc hfk
              obtain ⟨mm0, mm1, mm2, mm3, ll0, ll1, ll2, ll3⟩ := (V5.out.keep (.cells #[.int .u32 x1, .int .i64 x2] 50)).cells
              by_cases hgt : 0 < x2
              · have HYES : Hid (tkE true left 0 = true ∨ 0 < ((x1, x2) : Hd).2) := Lib.hid (.inr hgt)
                have HVAL : Hid (max (x2 - 0) 0 = x2) := Lib.hid (by omega)
                have hwr := vwrap (x := x2) (by omega) (by omega)
                clear hbd ht0
                have hn1 := news_new (wr.alloc (.cells #[.int .u32 x1, .int .i64 x2] 50)) [.int .u32 x1, .int .i64 x2] 50
                rw [World.size_alloc] at hn1
                have HN1 := Lib.hid hn1
                clear hn1
                go_wp2_with ((refine wpList_app_cell rfl 26 50 i0 _ 2 16 Tryz.underlying26 hi0 hz0 hz1 hz2 rfl (by decide) (by omega) (.tmp 44) (.tmp 52) rfl (w.heap.size + 3) _ n5 (hv (tkS true left (s.take k) 0)) rfl ((HO.out.alloc _).alloc _) ⟨wr.heap.size + 1, 0, none⟩ 1 [.int .u32 x1, .int .i64 x2] rfl rfl HN1.out (by simp [Value.oneCell']) (by omega) (by have := HZ.out; simp; omega) ?_; intro a' cap' w' hown hg; have hbb : Hid (Below (w.heap.size + 3) wr w') := Lib.hid ((((Below.refl _ wr).alloc HZ.out _).alloc (by have := HZ.out; simp; omega) _).trans (grown_below ((HO.out.alloc _).alloc _) hg.out (by have := HZ.out; simp; omega))); have V5' := Lib.hid (V5.out.below hbb.out (by omega)); have V0' := Lib.hid (V0.out.below hbb.out (by omega)); have V1' := Lib.hid (V1.out.below hbb.out (by omega)); clear c0 c1 c2 c3 f0 f1 f2 f3 z0 z1 z2 z3 d0 d1 mm0 mm1 mm2 mm3 ll0 ll1 ll2 ll3; obtain ⟨c0, c1, c2, c3, f0, f1, f2, f3⟩ := V5'.out.cells; obtain ⟨z0, z1, z2, z3, -⟩ := V0'.out.cells))
                go_roundw
                case rel =>
                  have BS := But1.set w' (w.heap.size + 1 + 1) 3 (.slice a' (n5 + 1) cap')
                  have e := tkS_yes (n := 0) HFK.out HYES.out
                  simp only at e
                  rw [HVAL.out] at e
                  refine ⟨k + 1, a', n5 + 1, cap', by go_num, by omega, by rw [e, List.length_append, ← HN5.out]; rfl, ?_, V5'.out.set3 a' (n5 + 1) cap', V0'.out.but BS (by omega), V1'.out.but BS (by omega), HB.out.trans ((hbb.out.mono (by omega)).trans (BS.below (by omega) (Nat.le_trans (by have := HB.out.size; omega) hbb.out.size))), Nat.le_trans (Nat.le_trans HZ.out hbb.out.size) BS.size⟩
                  rw [e, hv_append, hv_one']
                  exact vown_but hown.out BS (by omega)
                case measure => simp [intOf]; omega
              · have hgt' : decide (0 < x2) = false := decide_eq_false hgt
                have HYES : Hid (tkE true left 0 = true ∨ 0 < ((x1, x2) : Hd).2) := Lib.hid (.inl HE.out)
                have HVAL : Hid (max (x2 - 0) 0 = 0) := Lib.hid (by omega)
                clear hbd ht0 hgt
                have hn1 := news_new (wr.alloc (.cells #[.int .u32 x1, .int .i64 x2] 50)) [.int .u32 x1, .int .i64 (0)] 50
                rw [World.size_alloc] at hn1
                have HN1 := Lib.hid hn1
                clear hn1
                go_wp2_with ((refine wpList_app_cell rfl 26 50 i0 _ 2 16 Tryz.underlying26 hi0 hz0 hz1 hz2 rfl (by decide) (by omega) (.tmp 58) (.tmp 62) rfl (w.heap.size + 3) _ n5 (hv (tkS true left (s.take k) 0)) rfl ((HO.out.alloc _).alloc _) ⟨wr.heap.size + 1, 0, none⟩ 1 [.int .u32 x1, .int .i64 (0)] rfl rfl HN1.out (by simp [Value.oneCell']) (by omega) (by have := HZ.out; simp; omega) ?_; intro a' cap' w' hown hg; have hbb : Hid (Below (w.heap.size + 3) wr w') := Lib.hid ((((Below.refl _ wr).alloc HZ.out _).alloc (by have := HZ.out; simp; omega) _).trans (grown_below ((HO.out.alloc _).alloc _) hg.out (by have := HZ.out; simp; omega))); have V5' := Lib.hid (V5.out.below hbb.out (by omega)); have V0' := Lib.hid (V0.out.below hbb.out (by omega)); have V1' := Lib.hid (V1.out.below hbb.out (by omega)); clear c0 c1 c2 c3 f0 f1 f2 f3 z0 z1 z2 z3 d0 d1 mm0 mm1 mm2 mm3 ll0 ll1 ll2 ll3; obtain ⟨c0, c1, c2, c3, f0, f1, f2, f3⟩ := V5'.out.cells; obtain ⟨z0, z1, z2, z3, -⟩ := V0'.out.cells))
                go_roundw
                case rel =>
                  have BS := But1.set w' (w.heap.size + 1 + 1) 3 (.slice a' (n5 + 1) cap')
                  have e := tkS_yes (n := 0) HFK.out HYES.out
                  simp only at e
                  rw [HVAL.out] at e
                  refine ⟨k + 1, a', n5 + 1, cap', by go_num, by omega, by rw [e, List.length_append, ← HN5.out]; rfl, ?_, V5'.out.set3 a' (n5 + 1) cap', V0'.out.but BS (by omega), V1'.out.but BS (by omega), HB.out.trans ((hbb.out.mono (by omega)).trans (BS.below (by omega) (Nat.le_trans (by have := HB.out.size; omega) hbb.out.size))), Nat.le_trans (Nat.le_trans HZ.out hbb.out.size) BS.size⟩
                  rw [e, hv_append, hv_one']
                  exact vown_but hown.out BS (by omega)
                case measure => simp [intOf]; omega
            · obtain rfl : k = n := by omega
              have htk : s.take k = s := List.take_of_length_le (by rw [HX.out]; exact Nat.le_refl _)
              have HO' := HO.out
              have HN' := HN5.out
              rw [htk] at HO' HN'
              have HHT := Lib.hid (own_ht HO' HN'.symm (fun x hx => by
                obtain ⟨y, hy, rfl⟩ := List.mem_map.1 hx
                have h1 := HH.out.2 y (List.mem_filter.1 hy).1
                have h2 := HBD.out y (List.mem_filter.1 hy).1
                have h3 := HT.out
                exact ⟨h1.1, by simp only; omega, by simp only; omega⟩))
              have HN := Lib.hid HN'
              clear HO HO' HN' HN5 htk
              obtain ⟨y0, y1, y2, y3, g0, g1, g2, g3⟩ := V1.out.cells
              go_wp2_with fail
              refine ret_cell1 (p := 4) rfl rfl rfl (V1.out.store g true left a5 n5 c5).load ?_
              have BS := V1.out.store_but g true left a5 n5 c5
              exact HFIN.out _ _ a5 c5 _ rfl (by rw [← HN.out]) (HHT.out.other V1.out.noH BS) (HB.out.trans (BS.below (by omega) HB.out.size))
        · obtain rfl : false = E := by rw [← HE.out]; unfold tkE; simp; omega
          obtain rfl : 0 = L := by have := HL.out; omega
          have hc' : decide (0 < left) = false := decide_eq_false hc
          clear hc
          go_wp2
          obtain ⟨w3, hw3⟩ : ∃ w3, w3 = ((w.alloc (.cells #[.int .u32 g, .bool true, .int .i64 left, .slice a n c] 28)).alloc (.cells #[.int .u32 0, .bool false, .int .i64 0, .slice none 0 0] 28)).alloc (.cells #[.int .u32 g, .bool false, .int .i64 0, .slice none 0 0] 28) := ⟨_, rfl⟩
          obtain ⟨hs3, v0, v1, v5, hb3⟩ := mkTk w g true left a n c false 0 w3 hw3
          rw [← hw3]
          have HS3 := Lib.hid hs3
          have V0S := Lib.hid v0
          have V1S := Lib.hid v1
          have V5S := Lib.hid v5
          have HB3 := Lib.hid hb3
          clear hw3 hs3 v0 v1 v5 hb3
          go_loopw [6] (fun v6 wr => ∃ (k : Nat) (a5 : Option Addr) (n5 c5 : Nat), v6 = .int .i64 (k : Int) ∧ k ≤ n ∧ n5 = (tkS true left (s.take k) 0).length ∧ wr.ownsRow (w.heap.size + 3) 50 2 (.slice a5 n5 c5) n5 (hv (tkS true left (s.take k) 0)) ∧
            MV wr (w.heap.size + 1 + 1) g false 0 a5 n5 c5 ∧ MV wr w.heap.size g true left a n c ∧ MV wr (w.heap.size + 1) 0 false 0 none 0 0 ∧ Below w.heap.size w wr ∧ w.heap.size + 3 ≤ wr.heap.size) (fun v _ => n - (intOf v).toNat)
          case atStart => exact ⟨0, none, 0, 0, rfl, by omega, by simp [tkS], by simpa [tkS, hv] using World.ownsRow_nil _ _ _ _, V5S.out, V0S.out, V1S.out, HB3.out, by rw [HS3.out]; exact Nat.le_refl _⟩
          case round =>
            clear V0S V1S V5S HB3 HS3
            obtain ⟨k, a5, n5, c5, rfl, hk, hn5, ho, hv5, hv0, hv1, hB, hZ⟩ := hrel
            have HN5 := Lib.hid hn5
            have HO := Lib.hid ho
            have V5 := Lib.hid hv5
            have V0 := Lib.hid hv0
            have V1 := Lib.hid hv1
            have HB := Lib.hid hB
            have HZ := Lib.hid hZ
            have hol : n5 ≤ 100000 := by rw [hn5]; exact Nat.le_trans (tkS_len _ _ _ _) (Nat.le_trans (List.length_take_le' _ _) (by rw [HX.out]; exact hm))
            clear hn5 ho hv5 hv0 hv1 hB hZ
            obtain ⟨c0, c1, c2, c3, f0, f1, f2, f3⟩ := V5.out.cells
            obtain ⟨z0, z1, z2, z3, -⟩ := V0.out.cells
            by_cases hlt : k < n
            · obtain ⟨b, off, rfl, hc⟩ := HH.out.at (k := k) (by rw [HX.out]; exact hlt)
              obtain ⟨⟨x1, x2⟩, hfk⟩ : ∃ x, s[k]? = some x := ⟨_, List.getElem?_eq_getElem (by rw [HX.out]; exact hlt)⟩
              obtain ⟨d0, d1⟩ := (hc k _ hfk).below HB.out
              simp only at d0 d1
              have HFK := Lib.hid hfk
              have hbd := HBD.out (x1, x2) (List.mem_of_getElem? hfk)
              simp only at hbd
              have ht0 := HT.out
              have hkz : (k : Int) < (n : Int) := by omega
              have k0 : (0 : Int) ≤ (k : Int) := by omega
              clear hc hfk
              obtain ⟨mm0, mm1, mm2, mm3, ll0, ll1, ll2, ll3⟩ := (V5.out.keep (.cells #[.int .u32 x1, .int .i64 x2] 50)).cells
              by_cases hgt : 0 < x2
              · have HYES : Hid (tkE true left 0 = true ∨ 0 < ((x1, x2) : Hd).2) := Lib.hid (.inr hgt)
                have HVAL : Hid (max (x2 - 0) 0 = x2) := Lib.hid (by omega)
                have hwr := vwrap (x := x2) (by omega) (by omega)
                clear hbd ht0
                have hn1 := news_new (wr.alloc (.cells #[.int .u32 x1, .int .i64 x2] 50)) [.int .u32 x1, .int .i64 x2] 50
                rw [World.size_alloc] at hn1
                have HN1 := Lib.hid hn1
                clear hn1
                go_wp2_with ((refine wpList_app_cell rfl 26 50 i0 _ 2 16 Tryz.underlying26 hi0 hz0 hz1 hz2 rfl (by decide) (by omega) (.tmp 44) (.tmp 52) rfl (w.heap.size + 3) _ n5 (hv (tkS true left (s.take k) 0)) rfl ((HO.out.alloc _).alloc _) ⟨wr.heap.size + 1, 0, none⟩ 1 [.int .u32 x1, .int .i64 x2] rfl rfl HN1.out (by simp [Value.oneCell']) (by omega) (by have := HZ.out; simp; omega) ?_; intro a' cap' w' hown hg; have hbb : Hid (Below (w.heap.size + 3) wr w') := Lib.hid ((((Below.refl _ wr).alloc HZ.out _).alloc (by have := HZ.out; simp; omega) _).trans (grown_below ((HO.out.alloc _).alloc _) hg.out (by have := HZ.out; simp; omega))); have V5' := Lib.hid (V5.out.below hbb.out (by omega)); have V0' := Lib.hid (V0.out.below hbb.out (by omega)); have V1' := Lib.hid (V1.out.below hbb.out (by omega)); clear c0 c1 c2 c3 f0 f1 f2 f3 z0 z1 z2 z3 d0 d1 mm0 mm1 mm2 mm3 ll0 ll1 ll2 ll3; obtain ⟨c0, c1, c2, c3, f0, f1, f2, f3⟩ := V5'.out.cells; obtain ⟨z0, z1, z2, z3, -⟩ := V0'.out.cells))
                go_roundw
                case rel =>
                  have BS := But1.set w' (w.heap.size + 1 + 1) 3 (.slice a' (n5 + 1) cap')
                  have e := tkS_yes (n := 0) HFK.out HYES.out
                  simp only at e
                  rw [HVAL.out] at e
                  refine ⟨k + 1, a', n5 + 1, cap', by go_num, by omega, by rw [e, List.length_append, ← HN5.out]; rfl, ?_, V5'.out.set3 a' (n5 + 1) cap', V0'.out.but BS (by omega), V1'.out.but BS (by omega), HB.out.trans ((hbb.out.mono (by omega)).trans (BS.below (by omega) (Nat.le_trans (by have := HB.out.size; omega) hbb.out.size))), Nat.le_trans (Nat.le_trans HZ.out hbb.out.size) BS.size⟩
                  rw [e, hv_append, hv_one']
                  exact vown_but hown.out BS (by omega)
                case measure => simp [intOf]; omega
              · have hgt' : decide (0 < x2) = false := decide_eq_false hgt
                have e := Lib.hid (tkS_no (ex := true) (left := left) HFK.out HE.out hgt)
                clear hbd ht0 hgt
                go_wp2
                go_roundw
                case rel => exact ⟨k + 1, a5, n5, c5, by go_num, by omega, by rw [e.out]; exact HN5.out, by rw [e.out]; exact HO.out.alloc _, V5.out.keep _, V0.out.keep _, V1.out.keep _, HB.out.alloc HB.out.size _, by have := HZ.out; simp; omega⟩
                case measure => simp [intOf]; omega
            · obtain rfl : k = n := by omega
              have htk : s.take k = s := List.take_of_length_le (by rw [HX.out]; exact Nat.le_refl _)
              have HO' := HO.out
              have HN' := HN5.out
              rw [htk] at HO' HN'
              have HHT := Lib.hid (own_ht HO' HN'.symm (fun x hx => by
                obtain ⟨y, hy, rfl⟩ := List.mem_map.1 hx
                have h1 := HH.out.2 y (List.mem_filter.1 hy).1
                have h2 := HBD.out y (List.mem_filter.1 hy).1
                have h3 := HT.out
                exact ⟨h1.1, by simp only; omega, by simp only; omega⟩))
              have HN := Lib.hid HN'
              clear HO HO' HN' HN5 htk
              obtain ⟨y0, y1, y2, y3, g0, g1, g2, g3⟩ := V1.out.cells
              go_wp2_with fail
              refine ret_cell1 (p := 4) rfl rfl rfl (V1.out.store g false 0 a5 n5 c5).load ?_
              have BS := V1.out.store_but g false 0 a5 n5 c5
              exact HFIN.out _ _ a5 c5 _ rfl (by rw [← HN.out]) (HHT.out.other V1.out.noH BS) (HB.out.trans (BS.below (by omega) HB.out.size))
    · have h3' : decide (t ≤ 0) = false := decide_eq_false (by omega)
      cases ex
      · obtain rfl : false = E := HE.out
        obtain rfl : left = 0 := HLF.out.2 rfl
        obtain rfl : 0 = L := by have := HL.out; have := HT.out; omega
        go_wp2
        obtain ⟨w3, hw3⟩ : ∃ w3, w3 = ((w.alloc (.cells #[.int .u32 g, .bool false, .int .i64 0, .slice a n c] 28)).alloc (.cells #[.int .u32 0, .bool false, .int .i64 0, .slice none 0 0] 28)).alloc (.cells #[.int .u32 g, .bool false, .int .i64 0, .slice none 0 0] 28) := ⟨_, rfl⟩
        obtain ⟨hs3, v0, v1, v5, hb3⟩ := mkTk w g false 0 a n c false 0 w3 hw3
        rw [← hw3]
        have HS3 := Lib.hid hs3
        have V0S := Lib.hid v0
        have V1S := Lib.hid v1
        have V5S := Lib.hid v5
        have HB3 := Lib.hid hb3
        clear hw3 hs3 v0 v1 v5 hb3
        go_loopw [6] (fun v6 wr => ∃ (k : Nat) (a5 : Option Addr) (n5 c5 : Nat), v6 = .int .i64 (k : Int) ∧ k ≤ n ∧ n5 = (tkS false 0 (s.take k) t).length ∧ wr.ownsRow (w.heap.size + 3) 50 2 (.slice a5 n5 c5) n5 (hv (tkS false 0 (s.take k) t)) ∧
          MV wr (w.heap.size + 1 + 1) g false 0 a5 n5 c5 ∧ MV wr w.heap.size g false 0 a n c ∧ MV wr (w.heap.size + 1) 0 false 0 none 0 0 ∧ Below w.heap.size w wr ∧ w.heap.size + 3 ≤ wr.heap.size) (fun v _ => n - (intOf v).toNat)
        case atStart => exact ⟨0, none, 0, 0, rfl, by omega, by simp [tkS], by simpa [tkS, hv] using World.ownsRow_nil _ _ _ _, V5S.out, V0S.out, V1S.out, HB3.out, by rw [HS3.out]; exact Nat.le_refl _⟩
        case round =>
          clear V0S V1S V5S HB3 HS3
          obtain ⟨k, a5, n5, c5, rfl, hk, hn5, ho, hv5, hv0, hv1, hB, hZ⟩ := hrel
          have HN5 := Lib.hid hn5
          have HO := Lib.hid ho
          have V5 := Lib.hid hv5
          have V0 := Lib.hid hv0
          have V1 := Lib.hid hv1
          have HB := Lib.hid hB
          have HZ := Lib.hid hZ
          have hol : n5 ≤ 100000 := by rw [hn5]; exact Nat.le_trans (tkS_len _ _ _ _) (Nat.le_trans (List.length_take_le' _ _) (by rw [HX.out]; exact hm))
          clear hn5 ho hv5 hv0 hv1 hB hZ
          obtain ⟨c0, c1, c2, c3, f0, f1, f2, f3⟩ := V5.out.cells
          obtain ⟨z0, z1, z2, z3, -⟩ := V0.out.cells
          by_cases hlt : k < n
          · obtain ⟨b, off, rfl, hc⟩ := HH.out.at (k := k) (by rw [HX.out]; exact hlt)
            obtain ⟨⟨x1, x2⟩, hfk⟩ : ∃ x, s[k]? = some x := ⟨_, List.getElem?_eq_getElem (by rw [HX.out]; exact hlt)⟩
            obtain ⟨d0, d1⟩ := (hc k _ hfk).below HB.out
            simp only at d0 d1
            have HFK := Lib.hid hfk
            have hbd := HBD.out (x1, x2) (List.mem_of_getElem? hfk)
            simp only at hbd
            have ht0 := HT.out
            have hkz : (k : Int) < (n : Int) := by omega
            have k0 : (0 : Int) ≤ (k : Int) := by omega
            clear hc hfk
            obtain ⟨mm0, mm1, mm2, mm3, ll0, ll1, ll2, ll3⟩ := (V5.out.keep (.cells #[.int .u32 x1, .int .i64 x2] 50)).cells
            by_cases hgt : t < x2
            · have HYES : Hid (tkE false 0 t = true ∨ t < ((x1, x2) : Hd).2) := Lib.hid (.inr hgt)
              have HVAL : Hid (max (x2 - t) 0 = x2 - t) := Lib.hid (by omega)
              have hwr := vwrap (x := x2 - t) (by omega) (by omega)
              clear hbd ht0
              have hn1 := news_new (wr.alloc (.cells #[.int .u32 x1, .int .i64 x2] 50)) [.int .u32 x1, .int .i64 (x2 - t)] 50
              rw [World.size_alloc] at hn1
              have HN1 := Lib.hid hn1
              clear hn1
              go_wp2_with ((refine wpList_app_cell rfl 26 50 i0 _ 2 16 Tryz.underlying26 hi0 hz0 hz1 hz2 rfl (by decide) (by omega) (.tmp 44) (.tmp 52) rfl (w.heap.size + 3) _ n5 (hv (tkS false 0 (s.take k) t)) rfl ((HO.out.alloc _).alloc _) ⟨wr.heap.size + 1, 0, none⟩ 1 [.int .u32 x1, .int .i64 (x2 - t)] rfl rfl HN1.out (by simp [Value.oneCell']) (by omega) (by have := HZ.out; simp; omega) ?_; intro a' cap' w' hown hg; have hbb : Hid (Below (w.heap.size + 3) wr w') := Lib.hid ((((Below.refl _ wr).alloc HZ.out _).alloc (by have := HZ.out; simp; omega) _).trans (grown_below ((HO.out.alloc _).alloc _) hg.out (by have := HZ.out; simp; omega))); have V5' := Lib.hid (V5.out.below hbb.out (by omega)); have V0' := Lib.hid (V0.out.below hbb.out (by omega)); have V1' := Lib.hid (V1.out.below hbb.out (by omega)); clear c0 c1 c2 c3 f0 f1 f2 f3 z0 z1 z2 z3 d0 d1 mm0 mm1 mm2 mm3 ll0 ll1 ll2 ll3; obtain ⟨c0, c1, c2, c3, f0, f1, f2, f3⟩ := V5'.out.cells; obtain ⟨z0, z1, z2, z3, -⟩ := V0'.out.cells))
              go_roundw
              case rel =>
                have BS := But1.set w' (w.heap.size + 1 + 1) 3 (.slice a' (n5 + 1) cap')
                have e := tkS_yes (n := t) HFK.out HYES.out
                simp only at e
                rw [HVAL.out] at e
                refine ⟨k + 1, a', n5 + 1, cap', by go_num, by omega, by rw [e, List.length_append, ← HN5.out]; rfl, ?_, V5'.out.set3 a' (n5 + 1) cap', V0'.out.but BS (by omega), V1'.out.but BS (by omega), HB.out.trans ((hbb.out.mono (by omega)).trans (BS.below (by omega) (Nat.le_trans (by have := HB.out.size; omega) hbb.out.size))), Nat.le_trans (Nat.le_trans HZ.out hbb.out.size) BS.size⟩
                rw [e, hv_append, hv_one']
                exact vown_but hown.out BS (by omega)
              case measure => simp [intOf]; omega
            · have hgt' : decide (t < x2) = false := decide_eq_false hgt
              have e := Lib.hid (tkS_no (ex := false) (left := 0) HFK.out HE.out hgt)
              clear hbd ht0 hgt
              go_wp2
              go_roundw
              case rel => exact ⟨k + 1, a5, n5, c5, by go_num, by omega, by rw [e.out]; exact HN5.out, by rw [e.out]; exact HO.out.alloc _, V5.out.keep _, V0.out.keep _, V1.out.keep _, HB.out.alloc HB.out.size _, by have := HZ.out; simp; omega⟩
              case measure => simp [intOf]; omega
          · obtain rfl : k = n := by omega
            have htk : s.take k = s := List.take_of_length_le (by rw [HX.out]; exact Nat.le_refl _)
            have HO' := HO.out
            have HN' := HN5.out
            rw [htk] at HO' HN'
            have HHT := Lib.hid (own_ht HO' HN'.symm (fun x hx => by
              obtain ⟨y, hy, rfl⟩ := List.mem_map.1 hx
              have h1 := HH.out.2 y (List.mem_filter.1 hy).1
              have h2 := HBD.out y (List.mem_filter.1 hy).1
              have h3 := HT.out
              exact ⟨h1.1, by simp only; omega, by simp only; omega⟩))
            have HN := Lib.hid HN'
            clear HO HO' HN' HN5 htk
            obtain ⟨y0, y1, y2, y3, g0, g1, g2, g3⟩ := V1.out.cells
            go_wp2_with fail
            refine ret_cell1 (p := 4) rfl rfl rfl (V1.out.store g false 0 a5 n5 c5).load ?_
            have BS := V1.out.store_but g false 0 a5 n5 c5
            exact HFIN.out _ _ a5 c5 _ rfl (by rw [← HN.out]) (HHT.out.other V1.out.noH BS) (HB.out.trans (BS.below (by omega) HB.out.size))
      · by_cases hc : t < left
        · obtain rfl : true = E := by rw [← HE.out]; unfold tkE; simp; omega
          obtain rfl : left - t = L := by rw [← HL.out]; omega
          have hwl := vwrap (x := left - t) (by have := HT.out; have := HLF.out; omega) (by have := HT.out; have := HLF.out; omega)
          go_wp2
          obtain ⟨w3, hw3⟩ : ∃ w3, w3 = ((w.alloc (.cells #[.int .u32 g, .bool true, .int .i64 left, .slice a n c] 28)).alloc (.cells #[.int .u32 0, .bool false, .int .i64 0, .slice none 0 0] 28)).alloc (.cells #[.int .u32 g, .bool true, .int .i64 (left - t), .slice none 0 0] 28) := ⟨_, rfl⟩
          obtain ⟨hs3, v0, v1, v5, hb3⟩ := mkTk w g true left a n c true (left - t) w3 hw3
          rw [← hw3]
          have HS3 := Lib.hid hs3
          have V0S := Lib.hid v0
          have V1S := Lib.hid v1
          have V5S := Lib.hid v5
          have HB3 := Lib.hid hb3
          clear hw3 hs3 v0 v1 v5 hb3
          go_loopw [6] (fun v6 wr => ∃ (k : Nat) (a5 : Option Addr) (n5 c5 : Nat), v6 = .int .i64 (k : Int) ∧ k ≤ n ∧ n5 = (tkS true left (s.take k) t).length ∧ wr.ownsRow (w.heap.size + 3) 50 2 (.slice a5 n5 c5) n5 (hv (tkS true left (s.take k) t)) ∧
            MV wr (w.heap.size + 1 + 1) g true (left - t) a5 n5 c5 ∧ MV wr w.heap.size g true left a n c ∧ MV wr (w.heap.size + 1) 0 false 0 none 0 0 ∧ Below w.heap.size w wr ∧ w.heap.size + 3 ≤ wr.heap.size) (fun v _ => n - (intOf v).toNat)
          case atStart => exact ⟨0, none, 0, 0, rfl, by omega, by simp [tkS], by simpa [tkS, hv] using World.ownsRow_nil _ _ _ _, V5S.out, V0S.out, V1S.out, HB3.out, by rw [HS3.out]; exact Nat.le_refl _⟩
          case round =>
            clear V0S V1S V5S HB3 HS3
            obtain ⟨k, a5, n5, c5, rfl, hk, hn5, ho, hv5, hv0, hv1, hB, hZ⟩ := hrel
            have HN5 := Lib.hid hn5
            have HO := Lib.hid ho
            have V5 := Lib.hid hv5
            have V0 := Lib.hid hv0
            have V1 := Lib.hid hv1
            have HB := Lib.hid hB
            have HZ := Lib.hid hZ
            have hol : n5 ≤ 100000 := by rw [hn5]; exact Nat.le_trans (tkS_len _ _ _ _) (Nat.le_trans (List.length_take_le' _ _) (by rw [HX.out]; exact hm))
            clear hn5 ho hv5 hv0 hv1 hB hZ
            obtain ⟨c0, c1, c2, c3, f0, f1, f2, f3⟩ := V5.out.cells
            obtain ⟨z0, z1, z2, z3, -⟩ := V0.out.cells
            by_cases hlt : k < n
            · obtain ⟨b, off, rfl, hc⟩ := HH.out.at (k := k) (by rw [HX.out]; exact hlt)
              obtain ⟨⟨x1, x2⟩, hfk⟩ : ∃ x, s[k]? = some x := ⟨_, List.getElem?_eq_getElem (by rw [HX.out]; exact hlt)⟩
              obtain ⟨d0, d1⟩ := (hc k _ hfk).below HB.out
              simp only at d0 d1
              have HFK := Lib.hid hfk
              have hbd := HBD.out (x1, x2) (List.mem_of_getElem? hfk)
              simp only at hbd
              have ht0 := HT.out
              have hkz : (k : Int) < (n : Int) := by omega
              have k0 : (0 : Int) ≤ (k : Int) := by omega
              clear hc hfk
              obtain ⟨mm0, mm1, mm2, mm3, ll0, ll1, ll2, ll3⟩ := (V5.out.keep (.cells #[.int .u32 x1, .int .i64 x2] 50)).cells
              by_cases hgt : t < x2
              · have HYES : Hid (tkE true left t = true ∨ t < ((x1, x2) : Hd).2) := Lib.hid (.inr hgt)
                have HVAL : Hid (max (x2 - t) 0 = x2 - t) := Lib.hid (by omega)
                have hwr := vwrap (x := x2 - t) (by omega) (by omega)
                clear hbd ht0
                have hn1 := news_new (wr.alloc (.cells #[.int .u32 x1, .int .i64 x2] 50)) [.int .u32 x1, .int .i64 (x2 - t)] 50
                rw [World.size_alloc] at hn1
                have HN1 := Lib.hid hn1
                clear hn1
                go_wp2_with ((refine wpList_app_cell rfl 26 50 i0 _ 2 16 Tryz.underlying26 hi0 hz0 hz1 hz2 rfl (by decide) (by omega) (.tmp 44) (.tmp 52) rfl (w.heap.size + 3) _ n5 (hv (tkS true left (s.take k) t)) rfl ((HO.out.alloc _).alloc _) ⟨wr.heap.size + 1, 0, none⟩ 1 [.int .u32 x1, .int .i64 (x2 - t)] rfl rfl HN1.out (by simp [Value.oneCell']) (by omega) (by have := HZ.out; simp; omega) ?_; intro a' cap' w' hown hg; have hbb : Hid (Below (w.heap.size + 3) wr w') := Lib.hid ((((Below.refl _ wr).alloc HZ.out _).alloc (by have := HZ.out; simp; omega) _).trans (grown_below ((HO.out.alloc _).alloc _) hg.out (by have := HZ.out; simp; omega))); have V5' := Lib.hid (V5.out.below hbb.out (by omega)); have V0' := Lib.hid (V0.out.below hbb.out (by omega)); have V1' := Lib.hid (V1.out.below hbb.out (by omega)); clear c0 c1 c2 c3 f0 f1 f2 f3 z0 z1 z2 z3 d0 d1 mm0 mm1 mm2 mm3 ll0 ll1 ll2 ll3; obtain ⟨c0, c1, c2, c3, f0, f1, f2, f3⟩ := V5'.out.cells; obtain ⟨z0, z1, z2, z3, -⟩ := V0'.out.cells))
                go_roundw
                case rel =>
                  have BS := But1.set w' (w.heap.size + 1 + 1) 3 (.slice a' (n5 + 1) cap')
                  have e := tkS_yes (n := t) HFK.out HYES.out
                  simp only at e
                  rw [HVAL.out] at e
                  refine ⟨k + 1, a', n5 + 1, cap', by go_num, by omega, by rw [e, List.length_append, ← HN5.out]; rfl, ?_, V5'.out.set3 a' (n5 + 1) cap', V0'.out.but BS (by omega), V1'.out.but BS (by omega), HB.out.trans ((hbb.out.mono (by omega)).trans (BS.below (by omega) (Nat.le_trans (by have := HB.out.size; omega) hbb.out.size))), Nat.le_trans (Nat.le_trans HZ.out hbb.out.size) BS.size⟩
                  rw [e, hv_append, hv_one']
                  exact vown_but hown.out BS (by omega)
                case measure => simp [intOf]; omega
              · have hgt' : decide (t < x2) = false := decide_eq_false hgt
                have HYES : Hid (tkE true left t = true ∨ t < ((x1, x2) : Hd).2) := Lib.hid (.inl HE.out)
                have HVAL : Hid (max (x2 - t) 0 = 0) := Lib.hid (by omega)
                clear hbd ht0 hgt
                have hn1 := news_new (wr.alloc (.cells #[.int .u32 x1, .int .i64 x2] 50)) [.int .u32 x1, .int .i64 (0)] 50
                rw [World.size_alloc] at hn1
                have HN1 := Lib.hid hn1
                clear hn1
                go_wp2_with ((refine wpList_app_cell rfl 26 50 i0 _ 2 16 Tryz.underlying26 hi0 hz0 hz1 hz2 rfl (by decide) (by omega) (.tmp 58) (.tmp 62) rfl (w.heap.size + 3) _ n5 (hv (tkS true left (s.take k) t)) rfl ((HO.out.alloc _).alloc _) ⟨wr.heap.size + 1, 0, none⟩ 1 [.int .u32 x1, .int .i64 (0)] rfl rfl HN1.out (by simp [Value.oneCell']) (by omega) (by have := HZ.out; simp; omega) ?_; intro a' cap' w' hown hg; have hbb : Hid (Below (w.heap.size + 3) wr w') := Lib.hid ((((Below.refl _ wr).alloc HZ.out _).alloc (by have := HZ.out; simp; omega) _).trans (grown_below ((HO.out.alloc _).alloc _) hg.out (by have := HZ.out; simp; omega))); have V5' := Lib.hid (V5.out.below hbb.out (by omega)); have V0' := Lib.hid (V0.out.below hbb.out (by omega)); have V1' := Lib.hid (V1.out.below hbb.out (by omega)); clear c0 c1 c2 c3 f0 f1 f2 f3 z0 z1 z2 z3 d0 d1 mm0 mm1 mm2 mm3 ll0 ll1 ll2 ll3; obtain ⟨c0, c1, c2, c3, f0, f1, f2, f3⟩ := V5'.out.cells; obtain ⟨z0, z1, z2, z3, -⟩ := V0'.out.cells))
                go_roundw
                case rel =>
                  have BS := But1.set w' (w.heap.size + 1 + 1) 3 (.slice a' (n5 + 1) cap')
                  have e := tkS_yes (n := t) HFK.out HYES.out
                  simp only at e
                  rw [HVAL.out] at e
                  refine ⟨k + 1, a', n5 + 1, cap', by go_num, by omega, by rw [e, List.length_append, ← HN5.out]; rfl, ?_, V5'.out.set3 a' (n5 + 1) cap', V0'.out.but BS (by omega), V1'.out.but BS (by omega), HB.out.trans ((hbb.out.mono (by omega)).trans (BS.below (by omega) (Nat.le_trans (by have := HB.out.size; omega) hbb.out.size))), Nat.le_trans (Nat.le_trans HZ.out hbb.out.size) BS.size⟩
                  rw [e, hv_append, hv_one']
                  exact vown_but hown.out BS (by omega)
                case measure => simp [intOf]; omega
            · obtain rfl : k = n := by omega
              have htk : s.take k = s := List.take_of_length_le (by rw [HX.out]; exact Nat.le_refl _)
              have HO' := HO.out
              have HN' := HN5.out
              rw [htk] at HO' HN'
              have HHT := Lib.hid (own_ht HO' HN'.symm (fun x hx => by
                obtain ⟨y, hy, rfl⟩ := List.mem_map.1 hx
                have h1 := HH.out.2 y (List.mem_filter.1 hy).1
                have h2 := HBD.out y (List.mem_filter.1 hy).1
                have h3 := HT.out
                exact ⟨h1.1, by simp only; omega, by simp only; omega⟩))
              have HN := Lib.hid HN'
              clear HO HO' HN' HN5 htk
              obtain ⟨y0, y1, y2, y3, g0, g1, g2, g3⟩ := V1.out.cells
              go_wp2_with fail
              refine ret_cell1 (p := 4) rfl rfl rfl (V1.out.store g true (left - t) a5 n5 c5).load ?_
              have BS := V1.out.store_but g true (left - t) a5 n5 c5
              exact HFIN.out _ _ a5 c5 _ rfl (by rw [← HN.out]) (HHT.out.other V1.out.noH BS) (HB.out.trans (BS.below (by omega) HB.out.size))
        · obtain rfl : false = E := by rw [← HE.out]; unfold tkE; simp; omega
          obtain rfl : 0 = L := by have := HL.out; omega
          have hc' : decide (t < left) = false := decide_eq_false hc
          clear hc
          go_wp2
          obtain ⟨w3, hw3⟩ : ∃ w3, w3 = ((w.alloc (.cells #[.int .u32 g, .bool true, .int .i64 left, .slice a n c] 28)).alloc (.cells #[.int .u32 0, .bool false, .int .i64 0, .slice none 0 0] 28)).alloc (.cells #[.int .u32 g, .bool false, .int .i64 0, .slice none 0 0] 28) := ⟨_, rfl⟩
          obtain ⟨hs3, v0, v1, v5, hb3⟩ := mkTk w g true left a n c false 0 w3 hw3
          rw [← hw3]
          have HS3 := Lib.hid hs3
          have V0S := Lib.hid v0
          have V1S := Lib.hid v1
          have V5S := Lib.hid v5
          have HB3 := Lib.hid hb3
          clear hw3 hs3 v0 v1 v5 hb3
          go_loopw [6] (fun v6 wr => ∃ (k : Nat) (a5 : Option Addr) (n5 c5 : Nat), v6 = .int .i64 (k : Int) ∧ k ≤ n ∧ n5 = (tkS true left (s.take k) t).length ∧ wr.ownsRow (w.heap.size + 3) 50 2 (.slice a5 n5 c5) n5 (hv (tkS true left (s.take k) t)) ∧
            MV wr (w.heap.size + 1 + 1) g false 0 a5 n5 c5 ∧ MV wr w.heap.size g true left a n c ∧ MV wr (w.heap.size + 1) 0 false 0 none 0 0 ∧ Below w.heap.size w wr ∧ w.heap.size + 3 ≤ wr.heap.size) (fun v _ => n - (intOf v).toNat)
          case atStart => exact ⟨0, none, 0, 0, rfl, by omega, by simp [tkS], by simpa [tkS, hv] using World.ownsRow_nil _ _ _ _, V5S.out, V0S.out, V1S.out, HB3.out, by rw [HS3.out]; exact Nat.le_refl _⟩
          case round =>
            clear V0S V1S V5S HB3 HS3
            obtain ⟨k, a5, n5, c5, rfl, hk, hn5, ho, hv5, hv0, hv1, hB, hZ⟩ := hrel
            have HN5 := Lib.hid hn5
            have HO := Lib.hid ho
            have V5 := Lib.hid hv5
            have V0 := Lib.hid hv0
            have V1 := Lib.hid hv1
            have HB := Lib.hid hB
            have HZ := Lib.hid hZ
            have hol : n5 ≤ 100000 := by rw [hn5]; exact Nat.le_trans (tkS_len _ _ _ _) (Nat.le_trans (List.length_take_le' _ _) (by rw [HX.out]; exact hm))
            clear hn5 ho hv5 hv0 hv1 hB hZ
            obtain ⟨c0, c1, c2, c3, f0, f1, f2, f3⟩ := V5.out.cells
            obtain ⟨z0, z1, z2, z3, -⟩ := V0.out.cells
            by_cases hlt : k < n
            · obtain ⟨b, off, rfl, hc⟩ := HH.out.at (k := k) (by rw [HX.out]; exact hlt)
              obtain ⟨⟨x1, x2⟩, hfk⟩ : ∃ x, s[k]? = some x := ⟨_, List.getElem?_eq_getElem (by rw [HX.out]; exact hlt)⟩
              obtain ⟨d0, d1⟩ := (hc k _ hfk).below HB.out
              simp only at d0 d1
              have HFK := Lib.hid hfk
              have hbd := HBD.out (x1, x2) (List.mem_of_getElem? hfk)
              simp only at hbd
              have ht0 := HT.out
              have hkz : (k : Int) < (n : Int) := by omega
              have k0 : (0 : Int) ≤ (k : Int) := by omega
              clear hc hfk
              obtain ⟨mm0, mm1, mm2, mm3, ll0, ll1, ll2, ll3⟩ := (V5.out.keep (.cells #[.int .u32 x1, .int .i64 x2] 50)).cells
              by_cases hgt : t < x2
              · have HYES : Hid (tkE true left t = true ∨ t < ((x1, x2) : Hd).2) := Lib.hid (.inr hgt)
                have HVAL : Hid (max (x2 - t) 0 = x2 - t) := Lib.hid (by omega)
                have hwr := vwrap (x := x2 - t) (by omega) (by omega)
                clear hbd ht0
                have hn1 := news_new (wr.alloc (.cells #[.int .u32 x1, .int .i64 x2] 50)) [.int .u32 x1, .int .i64 (x2 - t)] 50
                rw [World.size_alloc] at hn1
                have HN1 := Lib.hid hn1
                clear hn1
                go_wp2_with ((refine wpList_app_cell rfl 26 50 i0 _ 2 16 Tryz.underlying26 hi0 hz0 hz1 hz2 rfl (by decide) (by omega) (.tmp 44) (.tmp 52) rfl (w.heap.size + 3) _ n5 (hv (tkS true left (s.take k) t)) rfl ((HO.out.alloc _).alloc _) ⟨wr.heap.size + 1, 0, none⟩ 1 [.int .u32 x1, .int .i64 (x2 - t)] rfl rfl HN1.out (by simp [Value.oneCell']) (by omega) (by have := HZ.out; simp; omega) ?_; intro a' cap' w' hown hg; have hbb : Hid (Below (w.heap.size + 3) wr w') := Lib.hid ((((Below.refl _ wr).alloc HZ.out _).alloc (by have := HZ.out; simp; omega) _).trans (grown_below ((HO.out.alloc _).alloc _) hg.out (by have := HZ.out; simp; omega))); have V5' := Lib.hid (V5.out.below hbb.out (by omega)); have V0' := Lib.hid (V0.out.below hbb.out (by omega)); have V1' := Lib.hid (V1.out.below hbb.out (by omega)); clear c0 c1 c2 c3 f0 f1 f2 f3 z0 z1 z2 z3 d0 d1 mm0 mm1 mm2 mm3 ll0 ll1 ll2 ll3; obtain ⟨c0, c1, c2, c3, f0, f1, f2, f3⟩ := V5'.out.cells; obtain ⟨z0, z1, z2, z3, -⟩ := V0'.out.cells))
                go_roundw
                case rel =>
                  have BS := But1.set w' (w.heap.size + 1 + 1) 3 (.slice a' (n5 + 1) cap')
                  have e := tkS_yes (n := t) HFK.out HYES.out
                  simp only at e
                  rw [HVAL.out] at e
                  refine ⟨k + 1, a', n5 + 1, cap', by go_num, by omega, by rw [e, List.length_append, ← HN5.out]; rfl, ?_, V5'.out.set3 a' (n5 + 1) cap', V0'.out.but BS (by omega), V1'.out.but BS (by omega), HB.out.trans ((hbb.out.mono (by omega)).trans (BS.below (by omega) (Nat.le_trans (by have := HB.out.size; omega) hbb.out.size))), Nat.le_trans (Nat.le_trans HZ.out hbb.out.size) BS.size⟩
                  rw [e, hv_append, hv_one']
                  exact vown_but hown.out BS (by omega)
                case measure => simp [intOf]; omega
              · have hgt' : decide (t < x2) = false := decide_eq_false hgt
                have e := Lib.hid (tkS_no (ex := true) (left := left) HFK.out HE.out hgt)
                clear hbd ht0 hgt
                go_wp2
                go_roundw
                case rel => exact ⟨k + 1, a5, n5, c5, by go_num, by omega, by rw [e.out]; exact HN5.out, by rw [e.out]; exact HO.out.alloc _, V5.out.keep _, V0.out.keep _, V1.out.keep _, HB.out.alloc HB.out.size _, by have := HZ.out; simp; omega⟩
                case measure => simp [intOf]; omega
            · obtain rfl : k = n := by omega
              have htk : s.take k = s := List.take_of_length_le (by rw [HX.out]; exact Nat.le_refl _)
              have HO' := HO.out
              have HN' := HN5.out
              rw [htk] at HO' HN'
              have HHT := Lib.hid (own_ht HO' HN'.symm (fun x hx => by
                obtain ⟨y, hy, rfl⟩ := List.mem_map.1 hx
                have h1 := HH.out.2 y (List.mem_filter.1 hy).1
                have h2 := HBD.out y (List.mem_filter.1 hy).1
                have h3 := HT.out
                exact ⟨h1.1, by simp only; omega, by simp only; omega⟩))
              have HN := Lib.hid HN'
              clear HO HO' HN' HN5 htk
              obtain ⟨y0, y1, y2, y3, g0, g1, g2, g3⟩ := V1.out.cells
              go_wp2_with fail
              refine ret_cell1 (p := 4) rfl rfl rfl (V1.out.store g false 0 a5 n5 c5).load ?_
              have BS := V1.out.store_but g false 0 a5 n5 c5
              exact HFIN.out _ _ a5 c5 _ rfl (by rw [← HN.out]) (HHT.out.other V1.out.noH BS) (HB.out.trans (BS.below (by omega) HB.out.size))
  exact main (max t0 0) (by omega) (by omega) rfl (by omega)
end Go.Proofs.YtllpmepmgnnoaaaGreat
