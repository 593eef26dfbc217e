/- What sets and filters are handed back lies in new memory. -/
import Derived.Test.YtmcbbccbonadjaaW0
import Derived.Test.YtmcbbccbonadjaaW1
import Derived.Test.YtmcbbccbonadjaaW2
import Derived.Test.YtmcbbccbonadjaaW3
import Derived.Test.YtmcbbccbonadjaaW4
import Derived.Test.YtmcbbccbonadjaaW5
import Derived.Test.YtmcbbccbonadjaaW6
import Derived.Test.YtmcbbccbonadjaaW7
import Derived.Test.YtmcbbccbonadjaaW8
import Derived.Test.YtmcbbccbonadjaaW9
import Derived.Test.YtmcbbccbonadjaaW10
import Derived.BigQuiet
namespace Go.Proofs.Ytmcbbccbonadjaa
set_option linter.unusedVariables false
open Go.RowKit Go.Shelf
open Go.Sort (PermIn)

/-- A row lies in memory of the call's own. -/
def FreshA (w : World) (a : Option Addr) (zs : List Int) : Prop := zs = [] ∨ ∃ g off, a = some ⟨g, off, none⟩ ∧ w.heap.size ≤ g
theorem FreshA.mono {w w' : World} {a : Option Addr} {zs : List Int} (h : FreshA w' a zs) (hs : w.heap.size ≤ w'.heap.size) : FreshA w a zs := by
  rcases h with h | ⟨g, off, e, hg⟩
  · exact .inl h
  · exact .inr ⟨g, off, e, Nat.le_trans hs hg⟩
def Out2 (w : World) (e : Ending) (w' : World) (zs : List Int) : Prop := (∃ a c, e = .returned (.slice a zs.length c) ∧ As w' a zs ∧ (Flat a zs.length c ∧ FreshA w a zs)) ∧ Below w.heap.size w w'
theorem out_of2 {w w' : World} {v : Value} {zs : List Int} (h : w'.ownsRow w.heap.size 27 1 v zs.length (va zs)) (hA : IsA zs) (hb : Below w.heap.size w w') : Out2 w (.returned v) w' zs := by
  refine ⟨?_, hb⟩
  rcases h.2 with ⟨rfl, h0⟩ | ⟨g, cap, cur, rfl, hB, _⟩
  · exact ⟨none, 0, by rw [h0], by rw [List.eq_nil_of_length_eq_zero h0]; exact As.nil _ _, .inl ⟨rfl, h0, rfl⟩, .inl (List.eq_nil_of_length_eq_zero h0)⟩
  · exact ⟨_, cap, rfl, (AsO.of rfl h).as hA, .inr ⟨_, _, rfl⟩, .inr ⟨_, _, rfl, hB⟩⟩
def OutF2 (w : World) (e : Ending) (w' : World) (r : Bool × List Int) : Prop := (∃ a c, e = .returned (.agg #[.bool r.1, .slice a r.2.length c]) ∧ As w' a r.2 ∧ (Flat a r.2.length c ∧ FreshA w a r.2)) ∧ Below w.heap.size w w'
theorem sMinus2 (a b : Option Addr) (la lb ca cb : Nat) (xs ys : List Int) (w : World) (hx : xs.length = la) (hy : ys.length = lb) (hla : la ≤ 400000) (hlb : lb ≤ 400000) (h1 : As w a xs) (h2 : As w b ys) :
    Calls Try.prog 41 #[.slice a la ca, .slice b lb cb] w fun e w' => Out2 w e w' (dif xs ys) := by
  have H : ∀ w', Below w.heap.size w w' → Calls Try.prog 64 #[.slice a la ca, .slice b lb cb, .func (.func 65) #[] #[]] w' fun e w2 => Out2 w' e w2 (dif xs ys) := fun w' hb =>
    ((callsIn_wide (n := 5)).1 (thoseM_in a b la lb ca cb xs ys w' hx hy hla hlb (h1.below hb) (h2.below hb))).mono fun e w2 ⟨v, e1, e2, e3⟩ => by subst e1; exact out_of2 e2 (those_isA h1.2 h2.2) e3
  have HH := Lib.hid H
  clear H h1 h2
  go_enter Try.func41, Try.ntmps41
  go_wp2_with (go_at_call 64; refine (HH.out _ (Below.refl _ _)).mono ?_; rintro e w2 ⟨⟨a', c', rfl, hA, hnil⟩, hB⟩; have HA := Lib.hid hA; have HB := Lib.hid hB; have HN := Lib.hid hnil; clear hA hB hnil)
  go_ret
  exact ⟨⟨a', c', rfl, HA.out, HN.out⟩, HB.out⟩
set_option maxHeartbeats 1000000 in
theorem sMake2 (a : Option Addr) (n c : Nat) (xs : List Int) (w : World) (hx : xs.length = n) (hm : n ≤ 1000000) (h : As w a xs) (hf : Flat a n c) :
    Calls Try.prog 42 #[.slice a n c] w fun e w' => Out2 w e w' (mk xs) := by
  have HX := Lib.hid hx
  have H := Lib.hid h
  clear hx h
  rcases hf with ⟨rfl, rfl, rfl⟩ | ⟨b, off, rfl⟩
  · have hxs : xs = [] := List.eq_nil_of_length_eq_zero HX.out
    go_enter Try.func42, Try.ntmps42
    go_wp2_with (first | (go_at_call 66; refine (AnyE.slices_Clone_nil Try.layK _ _ _).mono ?_; rintro e w1 ⟨rfl, rfl⟩) | (go_at_call 67; refine (sSort0 _ _ _).mono ?_; rintro e w1 ⟨rfl, rfl⟩) | (go_at_call 68; refine (lCompact0 _ _ _).mono ?_; rintro e w1 ⟨rfl, rfl⟩))
    go_ret
    subst hxs
    exact ⟨⟨none, 0, rfl, As.nil _ _, .inl ⟨rfl, rfl, rfl⟩, .inl rfl⟩, Below.refl _ _⟩
  · have hd : xs.toArray.size = n := by simpa using HX.out
    have HD := Lib.hid hd
    clear hd
    go_enter Try.func42, Try.ntmps42
    go_wp2_with fail
    refine (lClone b off n c xs _ HX.out hm H.out).mono ?_
    rintro e w1 ⟨g, cap, rfl, hg, hcap, hA, hb⟩
    have HA := Lib.hid hA
    have HB := Lib.hid hb
    clear hA hb
    go_wp2_with fail
    refine (sSort g 0 cap n xs.toArray _ HA.out HD.out hm).mono ?_
    rintro e w2 ⟨rfl, d', hps, hA2, hB2⟩
    have hds : d'.size = n := hps.1.1.trans HD.out
    have hck : Lib.compactUpTo d' n = mk xs := by
      have := hps
      rw [← HX.out] at this ⊢
      exact compact_mk this.1 this.2
    have CK := Lib.hid hck
    have HA2 := Lib.hid hA2
    have HB2 := Lib.hid (hB2.below hg HB.out.size)
    have HDS := Lib.hid hds
    clear hps hds hck hA2 hB2
    have hcomp := lCompact g 0 cap d' w2 HA2.out (by rw [HDS.out]; omega) (by rw [HDS.out]; exact hcap) (by rw [HDS.out, CK.out]; exact isA_iff.1 (mk_isA H.out.2))
    rw [HDS.out, CK.out] at hcomp
    have HC := Lib.hid hcomp
    clear hcomp
    go_wp2_with fail
    refine HC.out.mono ?_
    rintro e w3 ⟨rfl, hA3, hB3⟩
    have HA3 := Lib.hid hA3
    have HB3 := Lib.hid (hB3.below hg (Nat.le_trans HB.out.size HB2.out.size))
    clear hA3 hB3
    go_wp2
    go_ret
    exact ⟨⟨_, cap, rfl, HA3.out, .inr ⟨_, _, rfl⟩, .inr ⟨_, _, rfl, hg⟩⟩, (HB.out.trans HB2.out).trans HB3.out⟩
set_option maxRecDepth 100000 in
set_option maxHeartbeats 4000000 in
theorem sFilter2 (a : Option Addr) (n c : Nat) (fs : List Flt) (w : World) (hx : fs.length = n) (hfew : FewF fs) (hF : Fls w a fs) :
    Calls Try.prog 13 #[.slice a n c] w fun e w' => OutF2 w e w' (flt fs) := by
  obtain ⟨i0, hi, hz0, hz1, hz2⟩ := info_parts infoS
  have hn400 : n ≤ 400 := by rw [← hx]; exact hfew.1
  have HX := Lib.hid hx
  have HF := Lib.hid hF
  have HW := Lib.hid hfew
  have hwo : ∀ k, (wo (fs.take k)).length ≤ 160000 := fun k => by
    have h1 := wo_len (fs := fs.take k) fun f hf => hfew.2 f (List.mem_of_mem_take hf)
    have h2 : (fs.take k).length ≤ 400 := Nat.le_trans (List.length_take_le' _ _) hfew.1
    omega
  have hws : ∀ k, (withs (fs.take k)).length ≤ 400 := fun k => by
    have h2 : (fs.take k).length ≤ 400 := Nat.le_trans (List.length_take_le' _ _) hfew.1
    have : (withs (fs.take k)).length ≤ (fs.take k).length := List.length_filter_le _ _
    omega
  have HWO := Lib.hid hwo
  have HWS := Lib.hid hws
  clear hx hF hfew hwo hws
  go_enter Try.func13, Try.ntmps13
  go_wp2
  go_loopw [3, 4, 13] (fun v3 v4 v13 wr => ∃ k : Nat, v13 = .int .i64 (k : Int) ∧ k ≤ n ∧ wr.ownsRow w.heap.size 23 1 v3 (withs (fs.take k)).length ((withs (fs.take k)).map Flt.sl) ∧ wr.ownsRow w.heap.size 27 1 v4 (wo (fs.take k)).length (va (wo (fs.take k))) ∧
      Below w.heap.size w wr ∧ wr.heap[w.heap.size]? = some (.cells #[.bool false, .slice none 0 0] 25 (0, 0))) (fun _ _ v _ => n - (intOf v).toNat)
  case atStart => exact ⟨0, rfl, by omega, World.ownsRow_nil _ _ _ _, World.ownsRow_nil _ _ _ _, bel1 w _, Go.Deep.blk_alloc_new _ _⟩
  case round =>
    obtain ⟨k, rfl, hk, h3, h4, hB, hR⟩ := hrel
    have H3 := Lib.hid h3
    have H4 := Lib.hid h4
    have HB := Lib.hid hB
    have HR := Lib.hid hR
    have hNs : w.heap.size < wr.heap.size := (Array.getElem?_eq_some_iff.1 hR).1
    clear h3 h4 hB hR
    by_cases hlt : k < n
    · obtain ⟨b, off, rfl, hc⟩ := HF.out.at (k := k) (by rw [HX.out]; exact hlt)
      obtain ⟨⟨ex, srcs, fa, fc⟩, hfk⟩ : ∃ f, fs[k]? = some f := ⟨_, List.getElem?_eq_getElem (by rw [HX.out]; exact hlt)⟩
      have hat := (hc k _ hfk).below HB.out
      have hmem := List.mem_of_getElem? hfk
      have hs400 : srcs.length ≤ 400 := HW.out.2 _ hmem
      obtain ⟨⟨c0, c1⟩, hok⟩ := hat
      simp only [Flt.sl] at c1
      have HOK := Lib.hid hok
      have HFK := Lib.hid hfk
      have b1 := HWO.out k
      have b2 := HWS.out k
      have hkz : (k : Int) < (n : Int) := by omega
      clear hc hok hfk hmem
      cases ex
      · go_wp2_with (first | (refine wpList_app_as rfl (.tmp 24) (.tmp 26) rfl w.heap.size _ (wo (fs.take k)).length (wo (fs.take k)) rfl (H4.out.alloc _) rfl fa srcs.length fc srcs rfl rfl (HOK.out.below (bel1 wr _)).1 HOK.out.2 (by omega) (by simp; omega) ?_; intro a' cap' w' hown hg))
        go_roundw
        case rel =>
          refine ⟨k + 1, by go_num, by omega, ?_, ?_, HB.out.trans (((Below.refl _ wr).alloc HB.out.size _).trans (grown_below (H4.out.alloc _) hg.out (by simp; omega))), blk_ty (blk_alloc HR.out _) (H4.out.alloc _) (by decide) hg.out⟩
          · rw [take_succ HFK.out, withs_no rfl]
            exact own_ty (H3.out.alloc _) (H4.out.alloc _) (by decide) hg.out
          · rw [take_succ HFK.out, wo_no rfl, List.length_append]
            exact hown.out
        case measure => simp [intOf]; omega
      · have hn1 := news_new (wr.alloc (.cells #[.bool true, .slice fa srcs.length fc] 25)) [.slice fa srcs.length fc] 23
        rw [World.size_alloc] at hn1
        have HN1 := Lib.hid hn1
        clear hn1
        go_wp2_with (first | (refine wpList_app_cell rfl 76 23 i0 (.slice none 0 0) 1 24 Try.underlying76 hi hz0 hz1 hz2 rfl (by decide) (by omega) (.tmp 19) (.tmp 22) rfl w.heap.size _ (withs (fs.take k)).length ((withs (fs.take k)).map Flt.sl) rfl ((H3.out.alloc _).alloc _) ⟨wr.heap.size + 1, 0, none⟩ 1 [.slice fa srcs.length fc] rfl rfl HN1.out (by simp [Value.oneCell']) (by omega) (by simp; omega) ?_; intro a' cap' w' hown hg))
        go_roundw
        case rel =>
          refine ⟨k + 1, by go_num, by omega, ?_, ?_, HB.out.trans ((((Below.refl _ wr).alloc HB.out.size _).alloc (by simp; omega) _).trans (grown_below ((H3.out.alloc _).alloc _) hg.out (by simp; omega))), blk_ty (blk_alloc (blk_alloc HR.out _) _) ((H3.out.alloc _).alloc _) (by decide) hg.out⟩
          · rw [take_succ HFK.out, withs_yes rfl, List.length_append, List.map_append]
            exact hown.out
          · rw [take_succ HFK.out, wo_yes rfl]
            exact own_ty ((H4.out.alloc _).alloc _) ((H3.out.alloc _).alloc _) (by decide) hg.out
        case measure => simp [intOf]; omega
    · obtain rfl : k = n := by omega
      have htk : fs.take k = fs := List.take_of_length_le (by rw [HX.out]; exact Nat.le_refl _)
      have b1 := HWO.out k
      have b2 := HWS.out k
      have H3' := H3.out
      have H4' := H4.out
      rw [htk] at H3' H4' b1 b2
      clear H3 H4 htk
      obtain ⟨a3, c3, rfl, f3⟩ := own_sl H3'
      obtain ⟨a4, c4, rfl, f4⟩ := own_sl H4'
      have H3 := Lib.hid H3'
      have H4 := Lib.hid H4'
      have hA4 := (AsO.of rfl H4').as (wo_isA fun f hf => by
        obtain ⟨i, hi, e⟩ := List.getElem_of_mem hf
        obtain ⟨b, off, _, hc⟩ := HF.out.at hi
        exact (hc i f (by rw [List.getElem?_eq_getElem hi, e])).2)
      have HA4 := Lib.hid hA4
      have F4 := Lib.hid f4
      have F3 := Lib.hid f3
      clear H3' H4' hA4 f3 f4
      go_wp2_with fail
      refine (sMake2 a4 _ c4 (wo fs) _ rfl (by omega) HA4.out F4.out).mono ?_
      rintro e w5 ⟨⟨a5, c5, rfl, hA5, hf5⟩, hB5⟩
      have HA5 := Lib.hid hA5
      have HF5 := Lib.hid (show Flat a5 (mk (wo fs)).length c5 ∧ FreshA w a5 (mk (wo fs)) from ⟨hf5.1, hf5.2.mono HB.out.size⟩)
      have HB5 := Lib.hid hB5
      have H35 := Lib.hid (own_grown H3.out hB5 (Nat.le_refl _))
      have HR5 : Hid (w5.heap[w.heap.size]? = some (.cells #[.bool false, .slice none 0 0] 25 (0, 0))) := Lib.hid ((hB5.block _ hNs).trans HR.out)
      have HBB := Lib.hid (HB.out.trans (hB5.mono HB.out.size))
      clear hA5 hf5 hB5
      have hwm : ∀ f ∈ withs fs, FOk w f ∧ f.srcs.length ≤ 400 := fun f hf => by
        have hf' := (List.mem_filter.1 hf).1
        refine ⟨?_, HW.out.2 f hf'⟩
        obtain ⟨i, hi, e⟩ := List.getElem_of_mem hf'
        obtain ⟨b, off, _, hc⟩ := HF.out.at hi
        exact (hc i f (by rw [List.getElem?_eq_getElem hi, e])).2
      have hmk := mk_len (wo fs)
      rcases hw : withs fs with _ | ⟨f0, rest⟩
      · have hfl : flt fs = (false, mk (wo fs)) := by unfold flt; rw [hw]
        have HFL := Lib.hid hfl
        obtain ⟨⟨⟨r0, r1⟩, q0, q1⟩, hl, hA', hb'⟩ := fin_filter HR5.out HBB.out HA5.out false c5
        have HL := Lib.hid hl
        have HA' := Lib.hid hA'
        have HB' := Lib.hid hb'
        clear hfl hwm hl hA' hb' hmk
        simp only [List.length_nil]
        go_wp2_with fail
        refine ret_cell1 (p := 2) rfl rfl rfl HL.out ?_
        rw [HFL.out]
        exact ⟨⟨a5, c5, rfl, HA'.out, HF5.out⟩, HB'.out⟩
      · have hfl : flt fs = (true, dif (rest.foldl (fun l g => int l g.srcs) f0.srcs) (mk (wo fs))) := by unfold flt; rw [hw]
        have HFL := Lib.hid hfl
        obtain ⟨m, hm⟩ : ∃ m, rest.length = m := ⟨_, rfl⟩
        have hl1 : (f0 :: rest).length = m + 1 := by simp [hm]
        have HM := Lib.hid hm
        have H35' := H35.out
        have hwm' := hwm
        rw [hw] at b2 H35' hwm'
        rw [hl1] at b2 H35' ⊢
        clear hwm
        have hwm := hwm'
        clear hwm' hw
        obtain ⟨g, rfl, hnc, hcell⟩ := own_cell H35' (by omega)
        have c0 : w5.cell? ⟨g, 0, none⟩ = some (.slice f0.a f0.srcs.length f0.c) := hcell 0 _ rfl
        have HC := Lib.hid hcell
        have HWM := Lib.hid hwm
        have hA0 : As w5 f0.a f0.srcs := (hwm f0 (by simp)).1.1.below HBB.out
        have HA0 := Lib.hid hA0
        clear hfl hm hl1 H35' hcell hwm hA0 H35
        go_wp2_with fail
        all_goals
          go_loopw [8, 10, 42] (fun v8 v10 v42 wr2 => ∃ (j : Nat) (a' : Option Addr) (c' : Nat), v42 = .int .i64 (j : Int) ∧ j ≤ m ∧ v8 = .slice a' ((rest.take j).foldl (fun l g => int l g.srcs) f0.srcs).length c' ∧ As wr2 a' ((rest.take j).foldl (fun l g => int l g.srcs) f0.srcs) ∧ Below w5.heap.size w5 wr2) (fun _ _ v _ => m - (intOf v).toNat)
          case atStart => exact ⟨0, f0.a, f0.c, rfl, by omega, rfl, HA0.out, Below.refl _ _⟩
          case round =>
            obtain ⟨j, a', c', rfl, hj, rfl, hA, hB2⟩ := hrel
            have HA := Lib.hid hA
            have HB2 := Lib.hid hB2
            have hlen := Nat.le_trans (fold_len (rest.take j) f0.srcs) (HWM.out f0 (by simp)).2
            clear hA hB2
            by_cases hlt2 : j < m
            · first
              | (exfalso; omega)
              | (obtain ⟨⟨ex, srcs, fa, fc⟩, hfj⟩ : ∃ f, rest[j]? = some f := ⟨_, List.getElem?_eq_getElem (by rw [HM.out]; exact hlt2)⟩
                 have hck : wr.cell? ⟨g, 1 + j, none⟩ = some (.slice fa srcs.length fc) := by
                   have hck := HC.out (1 + j) (.slice fa srcs.length fc) (by rw [Nat.add_comm]; simp [hfj, Flt.sl])
                   exact (HB2.out.cell (cell_lt hck)).trans hck
                 have hmf := HWM.out _ (List.mem_cons_of_mem _ (List.mem_of_getElem? hfj))
                 have hs := hmf.2
                 have HOK := Lib.hid hmf.1
                 have HFJ := Lib.hid hfj
                 have hjz : (j : Int) < (m : Int) := by omega
                 have hsucc := fold_succ hfj f0.srcs
                 have HSU := Lib.hid hsucc
                 clear hfj hmf hsucc
                 go_wp2_with fail
                 refine (sInter _ _ _ _ _ _ _ srcs wr rfl rfl (by omega) (by omega) HA.out (HOK.out.1.below ((HBB.out.trans (HB2.out.mono HBB.out.size)).mono (Nat.le_refl _)))).mono ?_
                 rintro e w6 ⟨⟨a6, c6, rfl, hA6, hf6⟩, hB6⟩
                 have HA6 := Lib.hid hA6
                 have HB6 := Lib.hid hB6
                 clear hA6 hf6 hB6
                 go_wp2_with fail
                 go_roundw
                 case rel =>
                   refine ⟨j + 1, a6, c6, by go_num, by omega, ?_, ?_, HB2.out.trans (HB6.out.mono HB2.out.size)⟩
                   · rw [HSU.out]
                   · rw [HSU.out]; exact HA6.out
                 case measure => simp [intOf]; omega)
            · obtain rfl : j = m := by omega
              have htk : rest.take j = rest := List.take_of_length_le (by rw [HM.out]; exact Nat.le_refl _)
              have HA' := HA.out
              rw [htk] at HA' hlen ⊢
              have HAr := Lib.hid HA'
              clear HA HA' htk
              have hBw := HBB.out.trans (HB2.out.mono HBB.out.size)
              have HR6 : Hid (wr.heap[w.heap.size]? = some (.cells #[.bool false, .slice none 0 0] 25 (0, 0))) := Lib.hid ((HB2.out.block _ (Array.getElem?_eq_some_iff.1 HR5.out).1).trans HR5.out)
              have HBW := Lib.hid hBw
              clear hBw
              go_wp2_with fail
              refine (sMinus2 _ _ _ _ _ _ _ (mk (wo fs)) wr rfl rfl (by omega) (by omega) HAr.out (HA5.out.below HB2.out)).mono ?_
              rintro e w6 ⟨⟨a6, c6, rfl, hA6, hf6⟩, hB6⟩
              have HF6 := Lib.hid (show Flat a6 _ c6 ∧ FreshA w a6 _ from ⟨hf6.1, hf6.2.mono HBW.out.size⟩)
              obtain ⟨⟨⟨r0, r1⟩, q0, q1⟩, hl, hA', hb'⟩ := fin_filter ((hB6.block _ (Array.getElem?_eq_some_iff.1 HR6.out).1).trans HR6.out) (HBW.out.trans (hB6.mono HBW.out.size)) hA6 true c6
              have HL := Lib.hid hl
              have HA' := Lib.hid hA'
              have HB' := Lib.hid hb'
              clear hl hA' hb' hA6 hf6 hB6
              go_wp2_with fail
              refine ret_cell1 (p := 2) rfl rfl rfl HL.out ?_
              rw [HFL.out]
              exact ⟨⟨a6, c6, rfl, HA'.out, HF6.out⟩, HB'.out⟩
set_option maxRecDepth 100000 in
set_option maxHeartbeats 4000000 in
theorem hWants2 (a : Option Addr) (n c : Nat) (ss : List Sk) (g : Int) (w : World) (hx : ss.length = n) (hfew : FewS ss) (hH : Sks w a ss) :
    Calls Try.prog 32 #[.agg #[.slice a n c], .int .u32 g] w fun e w' => OutF2 w e w' (wants g ss) := by
  obtain ⟨i0, hi, hz0, hz1, hz2⟩ := info_parts infoF
  have HX := Lib.hid hx
  have HH := Lib.hid hH
  have HW := Lib.hid hfew
  have hn4 : n ≤ 400 := by rw [← hx]; exact hfew.1
  clear hx hH hfew
  go_enter Try.func32, Try.ntmps32
  go_wp2
  have hbN := bel1 (w.alloc (.cells #[.slice a n c] 36)) (.cells #[.bool false, .slice none 0 0] 25)
  have hR0 := Go.Deep.blk_alloc_new (w.alloc (.cells #[.slice a n c] 36)) (.cells #[.bool false, .slice none 0 0] 25)
  have hb0 := bel1 w (.cells #[.slice a n c] 36)
  have hs0 : (w.alloc (.cells #[.slice a n c] 36)).heap.size = w.heap.size + 1 := World.size_alloc _ _
  rw [hs0] at hbN hR0
  have HB0 := Lib.hid hb0
  have HBN := Lib.hid hbN
  have HR0 := Lib.hid hR0
  generalize w.alloc (.cells #[.slice a n c] 36) = w1 at *
  generalize w1.alloc (.cells #[.bool false, .slice none 0 0] 25) = w2 at *
  clear hb0 hbN hR0
  go_loopw [5, 11] (fun v5 v11 wr => ∃ (k : Nat) (a5 : Option Addr) (c5 : Nat), v5 = .slice a5 (ofG g (ss.take k)).length c5 ∧ v11 = .int .i64 (k : Int) ∧ k ≤ n ∧ wr.ownsRow (w.heap.size + 2) 25 2 (.slice a5 (ofG g (ss.take k)).length c5) (ofG g (ss.take k)).length (fv (ofG g (ss.take k))) ∧
    Below (w.heap.size + 1) w1 wr ∧ wr.heap[w.heap.size + 1]? = some (.cells #[.bool false, .slice none 0 0] 25 (0, 0))) (fun _ v _ => n - (intOf v).toNat)
  case atStart => exact ⟨0, none, 0, by simp [ofG], rfl, by omega, by simpa [ofG, fv] using World.ownsRow_nil _ _ _ _, HBN.out, HR0.out⟩
  case round =>
    obtain ⟨k, a5, c5, rfl, rfl, hk, ho, hB, hR⟩ := hrel
    have HO := Lib.hid ho
    have HB := Lib.hid hB
    have HR := Lib.hid hR
    have hNs : w.heap.size + 1 < wr.heap.size := (Array.getElem?_eq_some_iff.1 hR).1
    have hol : (ofG g (ss.take k)).length ≤ 400 := (ofG_few (HW.out.take k)).1
    have HBW := Lib.hid (HB0.out.trans (HB.out.mono (by omega)))
    clear ho hB hR
    by_cases hlt : k < n
    · obtain ⟨b, off, rfl, hc⟩ := HH.out.at (k := k) (by rw [HX.out]; exact hlt)
      obtain ⟨⟨id, gr, ⟨ex, srcs, fa, fc⟩⟩, hfk⟩ : ∃ s, ss[k]? = some s := ⟨_, List.getElem?_eq_getElem (by rw [HX.out]; exact hlt)⟩
      obtain ⟨⟨d0, d1, d2, d3⟩, hfo, -⟩ := (hc k _ hfk).below HBW.out
      simp only [Flt.sl] at d0 d1 d2 d3 hfo
      have HFK := Lib.hid hfk
      have hkz : (k : Int) < (n : Int) := by omega
      clear hc hfk hfo
      by_cases hg : gr = g
      · have hg1 : (gr == g) = true := by simpa using hg
        have HG := Lib.hid hg1
        have hn1 := news_new (wr.alloc (.cells #[.int .i64 id, .int .u32 gr, .bool ex, .slice fa srcs.length fc] 38)) [.bool ex, .slice fa srcs.length fc] 25
        rw [World.size_alloc] at hn1
        have HN1 := Lib.hid hn1
        clear hn1 hg
        go_wp2_with ((refine wpList_app_cell rfl 22 25 i0 _ 2 32 Try.underlying22 hi hz0 hz1 hz2 rfl (by decide) (by omega) (.tmp 19) (.tmp 22) rfl (w.heap.size + 2) _ (ofG g (ss.take k)).length (fv (ofG g (ss.take k))) rfl ((HO.out.alloc _).alloc _) ⟨wr.heap.size + 1, 0, none⟩ 1 [.bool ex, .slice fa srcs.length fc] rfl rfl HN1.out (by simp [Value.oneCell']) (by omega) (by simp; omega) ?_; intro a' cap' w' hown hg))
        go_roundw
        case rel =>
          have e : ofG g (ss.take (k + 1)) = ofG g (ss.take k) ++ [⟨ex, srcs, fa, fc⟩] := by rw [takeS HFK.out]; exact ofG_yes HG.out
          refine ⟨k + 1, a', cap', by rw [e, List.length_append]; rfl, by go_num, by omega, ?_, HB.out.trans ((((Below.refl _ wr).alloc (by omega) _).alloc (by simp; omega) _).trans ((grown_below ((HO.out.alloc _).alloc _) hg.out (by simp; omega)).mono (by omega))), ?_⟩
          · rw [e, List.length_append, fv_snoc]; exact hown.out
          · exact ((grown_below ((HO.out.alloc _).alloc _) hg.out (by simp; omega)).block (w.heap.size + 1) (by omega)).trans (blk_alloc (blk_alloc HR.out _) _)
        case measure => simp [intOf]; omega
      · have hg1 : (gr == g) = false := by simpa using hg
        have HG := Lib.hid hg1
        clear hg
        go_wp2
        go_roundw
        case rel =>
          have e : ofG g (ss.take (k + 1)) = ofG g (ss.take k) := by rw [takeS HFK.out]; exact ofG_no HG.out
          refine ⟨k + 1, a5, c5, by rw [e], by go_num, by omega, ?_, HB.out.alloc (by omega) _, blk_alloc HR.out _⟩
          rw [e]; exact HO.out.alloc _
        case measure => simp [intOf]; omega
    · obtain rfl : k = n := by omega
      have htk : ss.take k = ss := List.take_of_length_le (by rw [HX.out]; exact Nat.le_refl _)
      have HO' := HO.out
      rw [htk] at HO' hol ⊢
      have HO2 := Lib.hid HO'
      clear HO HO' htk
      have hfl := own_fls HO2.out rfl (fun f hf => by
        obtain ⟨s, hs, rfl⟩ := List.mem_map.1 hf
        exact ((HH.out.mem (List.mem_filter.1 hs).1).1.below HBW.out))
      have HFL := Lib.hid hfl
      clear hfl
      go_wp2_with fail
      refine (sFilter2 a5 _ c5 (ofG g ss) _ rfl (ofG_few HW.out) HFL.out).mono ?_
      rintro e w6 ⟨⟨a6, c6, rfl, hA6, hf6⟩, hB6⟩
      have HF6 := Lib.hid (show Flat a6 _ c6 ∧ FreshA w a6 _ from ⟨hf6.1, hf6.2.mono HBW.out.size⟩)
      obtain ⟨⟨⟨r0, r1⟩, q0, q1⟩, hl, hA', hb'⟩ := fin_filter ((hB6.block _ hNs).trans HR.out) (HB.out.trans (hB6.mono (by omega))) hA6 (flt (ofG g ss)).1 c6
      have HL := Lib.hid hl
      have HA' := Lib.hid hA'
      have HB' := Lib.hid (HB0.out.trans (hb'.mono (by omega)))
      clear hl hA' hb' hA6 hf6 hB6
      go_wp2_with fail
      refine ret_cell1 (p := 4) rfl rfl rfl HL.out ?_
      exact ⟨⟨a6, c6, rfl, HA'.out, HF6.out⟩, HB'.out⟩
end Go.Proofs.Ytmcbbccbonadjaa
/- Filters, sockets and hosts that came in. -/
namespace Go.Proofs.Ytmcbbccbonadjaa
set_option linter.unusedVariables false
open Go.ChangeShapes Go.WideShapes Go.ChangeAt Go.RowKit Go.Deep

section
variable {H : Type} {enc : TypeId × Value → H} {w : World} {base : Nat} {held : Bool}
theorem weights_field {P : Program} {t : TypeId} {fs : Array Field} (ht : P.underlying t = some (.struct fs)) {xs : List (DataW H × List MemPlace)} {d : DataW H} (hd : d = .agg (xs.map (·.1))) (hz : ∀ n ∈ d.weights P t, n ≤ reachBytes) (i : Nat) {f : Field} (ty : TypeId) (hf : fs[i]? = some f) (hty : f.type = ty) (hlen : i < xs.length) :
    ∀ n ∈ (xs[i]).1.weights P ty, n ≤ reachBytes := by
  intro n hn
  refine hz n ?_
  rw [hd]
  unfold DataW.weights
  simp only [ht]
  refine DataW.weights_mem_each (j := i) ?_ (by rw [List.getElem?_map, List.getElem?_eq_getElem hlen]; rfl) n hn
  subst hty
  simp [hf]
set_option maxRecDepth 100000 in
theorem open_flt1 {fuel : Nat} {c0 c1 : Value} {y : DataW H × List MemPlace} (h : DataW.trod enc Try.prog w base (fun _ => true) held fuel 25 [c0, c1] = some y) (hz : ∀ n ∈ y.1.weights Try.prog 25, n ≤ reachBytes) :
    ∃ r : Flt, c0 = .bool r.ex ∧ c1 = r.sl ∧ FOk w r ∧ r.srcs.length ≤ 1125899906842624 := by
  obtain ⟨xs, n, _, hx, _, hlen, hg⟩ := DataW.trod_struct Try.underlying25 h
  have hl3 : xs.length = 2 := by rw [hlen]; rfl
  have g0 := get_field hg 0 0 4 1 rfl rfl rfl (by kernel_rfl) (by omega)
  have g1 := get_field hg 1 1 23 1 rfl rfl rfl (by kernel_rfl) (by omega)
  obtain ⟨t, q0, _⟩ := DataW.trod_bool Try.underlying4 g0
  have hw1 := weights_field Try.underlying25 (xs := xs) (d := y.1) (by rw [hx]) hz 1 23 rfl rfl (by omega)
  obtain ⟨a, cp, zs, q1, ha, hn, hnil⟩ := open_as g1 hw1
  simp at q0
  subst q0 q1
  exact ⟨⟨t, zs, a, cp⟩, rfl, rfl, ⟨ha, hnil⟩, hn⟩
set_option maxRecDepth 100000 in
theorem open_sk1 {fuel : Nat} {c0 c1 c2 c3 : Value} {y : DataW H × List MemPlace} (h : DataW.trod enc Try.prog w base (fun _ => true) held fuel 38 [c0, c1, c2, c3] = some y) (hz : ∀ n ∈ y.1.weights Try.prog 38, n ≤ reachBytes) :
    ∃ s : Sk, (c0 = .int .i64 s.id ∧ c1 = .int .u32 s.g ∧ c2 = .bool s.f.ex ∧ c3 = s.f.sl) ∧ FOk w s.f ∧ (0 ≤ s.g ∧ s.g ≤ 4294967295) ∧ s.f.srcs.length ≤ 1125899906842624 := by
  obtain ⟨xs, n, _, hx, _, hlen, hg⟩ := DataW.trod_struct Try.underlying38 h
  have hl3 : xs.length = 3 := by rw [hlen]; rfl
  have g0 := get_field hg 0 0 3 1 rfl rfl rfl (by kernel_rfl) (by omega)
  have g1 := get_field hg 1 1 27 1 rfl rfl rfl (by kernel_rfl) (by omega)
  have g2 := get_field hg 2 2 25 2 rfl rfl rfl (by kernel_rfl) (by omega)
  obtain ⟨id, q0, _, w0⟩ := DataW.trod_int Try.underlying3 g0
  obtain ⟨g, q1, _, w1⟩ := DataW.trod_int Try.underlying27 g1
  have hw2 := weights_field Try.underlying38 (xs := xs) (d := y.1) (by rw [hx]) hz 2 25 rfl rfl (by omega)
  obtain ⟨r, q2, q3, hf, hn⟩ := open_flt1 (c0 := c2) (c1 := c3) (by simpa using g2) hw2
  simp at q0 q1
  subst q0 q1 q2 q3
  exact ⟨⟨id, g, r⟩, ⟨rfl, rfl, rfl, rfl⟩, hf, u32_bd w1, hn⟩
set_option maxRecDepth 100000 in
theorem open_sks0 {fuel : Nat} {c : Value} {y : DataW H × List MemPlace} (h : DataW.trod enc Try.prog w base (fun _ => true) held fuel 34 [c] = some y) (hz : ∀ n ∈ y.1.weights Try.prog 34, n ≤ reachBytes) :
    ∃ (a : Option Addr) (cp : Nat) (ss : List Sk), c = .slice a (List.length ss) cp ∧ Sks w a ss ∧ List.length ss ≤ 1125899906842624 ∧ (∀ s ∈ ss, s.f.srcs.length ≤ 1125899906842624) ∧ (a = none → cp = 0) ∧ List.length ss ≤ cp := by
  have e3 : Try.prog.cellsOf 38 = 4 := by kernel_rfl
  have hby : Try.prog.bytesOf 38 = 48 := by kernel_rfl
  rcases open_slice Try.underlying34 h with ⟨hcs, _⟩ | ⟨⟨b, off, spot⟩, len, cap, m, n, D, Pl, hcs, _, hl, hm, hmm, hx, hi⟩
  · simp at hcs
    exact ⟨none, 0, [], hcs, .inl rfl, by simp, by simp, fun _ => rfl, Nat.le_refl _⟩
  simp at hcs
  subst hcs
  rw [hx] at hz
  unfold DataW.weights at hz
  simp only [Try.underlying34] at hz
  have hw := hz _ (List.mem_cons_self ..)
  have hlen : len ≤ 1125899906842624 := by
    simp only [List.length_map, List.length_range, hby] at hw
    unfold reachBytes at hw
    omega
  have hs : 0 < len → spot = none := by
    intro h0
    obtain ⟨cs', hc, ht⟩ := hi 0 (by rw [hmm]; simp; omega)
    rw [e3] at hc
    obtain ⟨_, hcl, hat⟩ := World.cells?_some hc
    match cs', hcl with
    | [c0, c1, c2, c3], _ =>
    have a0 := hat 0 (by omega)
    have := World.cell?_spot a0
    simpa [Addr.add] using this
  by_cases h0 : len = 0
  · subst h0
    exact ⟨_, cap, [], rfl, .inl rfl, by simp, by simp, fun e => (by cases e), Nat.zero_le _⟩
  obtain rfl := hs (by omega)
  have each : ∀ i, i < len → ∃ s : Sk, SkAt w b (off + i * 4) s ∧ s.f.srcs.length ≤ 1125899906842624 := by
    intro i hil
    obtain ⟨cs', hc, ht⟩ := hi i (by rw [hmm]; simp; omega)
    rw [e3] at hc
    obtain ⟨_, hcl, hat⟩ := World.cells?_some hc
    match cs', hcl with
    | [c0, c1, c2, c3], _ =>
    have a0 := hat 0 (by omega)
    have a1 := hat 1 (by omega)
    have a2 := hat 2 (by omega)
    have a3 := hat 3 (by omega)
    rw [add_flat, add_flat] at a0 a1 a2 a3
    obtain ⟨s, ⟨rfl, rfl, rfl, rfl⟩, hf, hg, hn⟩ := open_sk1 (y := (D i, Pl i)) ht (fun x hx' => hz x (List.mem_cons_of_mem _ (List.mem_append_left _ (weights_all (d := D i) (List.mem_map.2 ⟨i, List.mem_range.2 hil, rfl⟩) x hx'))))
    exact ⟨s, ⟨⟨a0, a1, a2, a3⟩, hf, hg⟩, hn⟩
  obtain ⟨rs, hrl, hr⟩ := list_of (fun i r => SkAt w b (off + i * 4) r ∧ r.f.srcs.length ≤ 1125899906842624) len each
  subst hrl
  exact ⟨_, cap, rs, rfl, .inr ⟨b, off, rfl, fun k f hk => (hr k f hk).1⟩, hlen, fun f hf => by obtain ⟨i, hi, e⟩ := List.getElem_of_mem hf; exact (hr i f (by rw [List.getElem?_eq_getElem hi, e])).2, fun e => (by cases e), hl⟩
/-- What is known of a host that came in. -/
def HIn (w : World) (a : Option Addr) (ss : List Sk) (cp : Nat) : Prop := Sks w a ss ∧ List.length ss ≤ 1125899906842624 ∧ (∀ s ∈ ss, s.f.srcs.length ≤ 1125899906842624) ∧ (a = none → cp = 0) ∧ List.length ss ≤ cp
set_option maxRecDepth 100000 in
theorem open_host1 {fuel : Nat} {c : Value} {y : DataW H × List MemPlace} (h : DataW.trod enc Try.prog w base (fun _ => true) held fuel 36 [c] = some y) (hz : ∀ n ∈ y.1.weights Try.prog 36, n ≤ reachBytes) :
    ∃ (a : Option Addr) (cp : Nat) (ss : List Sk), c = .slice a (List.length ss) cp ∧ HIn w a ss cp := by
  obtain ⟨xs, n, _, hx, _, hlen, hg⟩ := DataW.trod_struct Try.underlying36 h
  have hl3 : xs.length = 1 := by rw [hlen]; rfl
  have g0 := get_field hg 0 0 34 1 rfl rfl rfl (by kernel_rfl) (by omega)
  have hw0 := weights_field Try.underlying36 (xs := xs) (d := y.1) (by rw [hx]) hz 0 34 rfl rfl (by omega)
  exact open_sks0 (by simpa using g0) hw0
/-- What is known of a socket that came in. -/
def SIn (w : World) (s : Sk) : Prop := FOk w s.f ∧ (0 ≤ s.g ∧ s.g ≤ 4294967295) ∧ s.f.srcs.length ≤ 1125899906842624
set_option maxRecDepth 100000 in
theorem open_host {r : Reach} {b0 : Nat} {v : Value} {d : DataW H} {p : List MemPlace} (hv : Value.okWide Try.prog w r b0 36 v) (h : DataW.Trod enc Try.prog w base (fun _ => true) held 36 v d p) (hz : ∀ n ∈ d.weights Try.prog 36, n ≤ reachBytes) :
    ∃ (a : Option Addr) (cp : Nat) (ss : List Sk), v = .agg #[.slice a (List.length ss) cp] ∧ HIn w a ss cp := by
  obtain ⟨cs, rfl, hsz⟩ := okWide_struct Try.underlying36 hv
  obtain ⟨l⟩ := cs
  have hl : l.length = 1 := by
    have : Try.prog.cellsOf 36 = 1 := by kernel_rfl
    rw [← this, ← hsz]; rfl
  match l, hl with
  | [c0], _ =>
  obtain ⟨fuel, hf⟩ := h
  obtain ⟨a, cp, ss, rfl, hin⟩ := open_host1 (c := c0) (y := (d, p)) (by simpa [Value.cells] using hf) hz
  exact ⟨a, cp, ss, rfl, hin⟩
set_option maxRecDepth 100000 in
theorem open_sock {r : Reach} {b0 : Nat} {v : Value} {d : DataW H} {p : List MemPlace} (hv : Value.okWide Try.prog w r b0 38 v) (h : DataW.Trod enc Try.prog w base (fun _ => true) held 38 v d p) (hz : ∀ n ∈ d.weights Try.prog 38, n ≤ reachBytes) :
    ∃ s : Sk, v = .agg #[.int .i64 s.id, .int .u32 s.g, .bool s.f.ex, s.f.sl] ∧ SIn w s := by
  obtain ⟨cs, rfl, hsz⟩ := okWide_struct Try.underlying38 hv
  obtain ⟨l⟩ := cs
  have hl : l.length = 4 := by
    have : Try.prog.cellsOf 38 = 4 := by kernel_rfl
    rw [← this, ← hsz]; rfl
  match l, hl with
  | [c0, c1, c2, c3], _ =>
  obtain ⟨fuel, hf⟩ := h
  obtain ⟨s, ⟨rfl, rfl, rfl, rfl⟩, hok, hg, hn⟩ := open_sk1 (y := (d, p)) (by simpa [Value.cells] using hf) hz
  exact ⟨s, rfl, hok, hg, hn⟩
set_option maxRecDepth 100000 in
theorem open_filt {r : Reach} {b0 : Nat} {v : Value} {d : DataW H} {p : List MemPlace} (hv : Value.okWide Try.prog w r b0 25 v) (h : DataW.Trod enc Try.prog w base (fun _ => true) held 25 v d p) (hz : ∀ n ∈ d.weights Try.prog 25, n ≤ reachBytes) :
    ∃ f : Flt, v = .agg #[.bool f.ex, f.sl] ∧ FOk w f ∧ f.srcs.length ≤ 1125899906842624 := by
  obtain ⟨cs, rfl, hsz⟩ := okWide_struct Try.underlying25 hv
  obtain ⟨l⟩ := cs
  have hl : l.length = 2 := by
    have : Try.prog.cellsOf 25 = 2 := by kernel_rfl
    rw [← this, ← hsz]; rfl
  match l, hl with
  | [c0, c1], _ =>
  obtain ⟨fuel, hf⟩ := h
  obtain ⟨s, rfl, rfl, hok, hn⟩ := open_flt1 (y := (d, p)) (by simpa [Value.cells] using hf) hz
  exact ⟨s, rfl, hok, hn⟩
set_option maxRecDepth 100000 in
theorem open_says {r : Reach} {b0 : Nat} {v : Value} {d : DataW H} {p : List MemPlace} (hv : Value.okWide Try.prog w r b0 71 v) (h : DataW.Trod enc Try.prog w base (fun _ => true) held 71 v d p) (hz : ∀ n ∈ d.weights Try.prog 71, n ≤ reachBytes) :
    ∃ (g : Int) (f1 f2 : Flt) (x : Int), v = .agg #[.int .u32 g, .bool f1.ex, f1.sl, .bool f2.ex, f2.sl, .int .u32 x] ∧ (FOk w f1 ∧ f1.srcs.length ≤ 1125899906842624) ∧ (FOk w f2 ∧ f2.srcs.length ≤ 1125899906842624) := by
  obtain ⟨cs, rfl, hsz⟩ := okWide_struct Try.underlying71 hv
  obtain ⟨l⟩ := cs
  have hl : l.length = 6 := by
    have : Try.prog.cellsOf 71 = 6 := by kernel_rfl
    rw [← this, ← hsz]; rfl
  match l, hl with
  | [c0, c1, c2, c3, c4, c5], _ =>
  obtain ⟨fuel, hf⟩ := h
  obtain ⟨xs, n, _, hx, _, hlen, hg⟩ := DataW.trod_struct Try.underlying71 hf
  have hl4 : xs.length = 4 := by rw [hlen]; rfl
  have g0 := get_field hg 0 0 27 1 rfl rfl rfl (by kernel_rfl) (by omega)
  have g1 := get_field hg 1 1 25 2 rfl rfl rfl (by kernel_rfl) (by omega)
  have g2 := get_field hg 2 3 25 2 rfl rfl rfl (by kernel_rfl) (by omega)
  have g3 := get_field hg 3 5 27 1 rfl rfl rfl (by kernel_rfl) (by omega)
  have hd : d = .agg (xs.map (·.1)) := by simpa using congrArg Prod.fst hx
  obtain ⟨g, q0, _, _⟩ := DataW.trod_int Try.underlying27 g0
  obtain ⟨x, q3, _, _⟩ := DataW.trod_int Try.underlying27 g3
  obtain ⟨f1, q1, q1', k1, n1⟩ := open_flt1 (c0 := c1) (c1 := c2) (by simpa [Value.cells] using g1) (weights_field Try.underlying71 hd hz 1 25 rfl rfl _)
  obtain ⟨f2, q2, q2', k2, n2⟩ := open_flt1 (c0 := c3) (c1 := c4) (by simpa [Value.cells] using g2) (weights_field Try.underlying71 hd hz 2 25 rfl rfl _)
  simp [Value.cells] at q0 q3
  subst q0 q1 q1' q2 q2' q3
  exact ⟨g, f1, f2, x, rfl, ⟨k1, n1⟩, ⟨k2, n2⟩⟩
set_option maxRecDepth 100000 in
theorem open_wants {r : Reach} {b0 : Nat} {v : Value} {d : DataW H} {p : List MemPlace} (hv : Value.okWide Try.prog w r b0 65 v) (h : DataW.Trod enc Try.prog w base (fun _ => true) held 65 v d p) (hz : ∀ n ∈ d.weights Try.prog 65, n ≤ reachBytes) :
    ∃ (a : Option Addr) (cp : Nat) (ss : List Sk) (g : Int) (b : Option Addr) (cb : Nat) (ls : List Int) (x : Int), v = .agg #[.slice a (List.length ss) cp, .int .u32 g, .slice b (List.length ls) cb, .int .u32 x] ∧ HIn w a ss cp ∧ (0 ≤ g ∧ g ≤ 4294967295) ∧ As w b ls ∧ List.length ls ≤ 1125899906842624 ∧ (b = none → cb = 0) := by
  obtain ⟨cs, rfl, hsz⟩ := okWide_struct Try.underlying65 hv
  obtain ⟨l⟩ := cs
  have hl : l.length = 4 := by
    have : Try.prog.cellsOf 65 = 4 := by kernel_rfl
    rw [← this, ← hsz]; rfl
  match l, hl with
  | [c0, c1, c2, c3], _ =>
  obtain ⟨fuel, hf⟩ := h
  obtain ⟨xs, n, _, hx, _, hlen, hg⟩ := DataW.trod_struct Try.underlying65 hf
  have hl4 : xs.length = 4 := by rw [hlen]; rfl
  have g0 := get_field hg 0 0 36 1 rfl rfl rfl (by kernel_rfl) (by omega)
  have g1 := get_field hg 1 1 27 1 rfl rfl rfl (by kernel_rfl) (by omega)
  have g2 := get_field hg 2 2 23 1 rfl rfl rfl (by kernel_rfl) (by omega)
  have g3 := get_field hg 3 3 27 1 rfl rfl rfl (by kernel_rfl) (by omega)
  have hd : d = .agg (xs.map (·.1)) := by simpa using congrArg Prod.fst hx
  obtain ⟨a, cp, ss, q0, hin⟩ := open_host1 (c := c0) (by simpa [Value.cells] using g0) (weights_field Try.underlying65 hd hz 0 36 rfl rfl _)
  obtain ⟨g, q1, _, w1⟩ := DataW.trod_int Try.underlying27 g1
  obtain ⟨b, cb, ls, q2, ha, hn, hnil⟩ := open_as (c := c2) (by simpa [Value.cells] using g2) (weights_field Try.underlying65 hd hz 2 23 rfl rfl _)
  obtain ⟨x, q3, _, _⟩ := DataW.trod_int Try.underlying27 g3
  simp [Value.cells] at q1 q3
  subst q0 q1 q2 q3
  exact ⟨a, cp, ss, g, b, cb, ls, x, rfl, hin, u32_bd w1, ha, hn, hnil⟩
set_option maxRecDepth 100000 in
theorem open_chg {r : Reach} {b0 : Nat} {v : Value} {d : DataW H} {p : List MemPlace} (hv : Value.okWide Try.prog w r b0 40 v) (h : DataW.Trod enc Try.prog w base (fun _ => true) held 40 v d p) (hz : ∀ n ∈ d.weights Try.prog 40, n ≤ reachBytes) :
    ∃ (a : Option Addr) (cp : Nat) (ss : List Sk) (s : Sk) (id : Int) (f : Flt), v = .agg #[.slice a (List.length ss) cp, .int .i64 s.id, .int .u32 s.g, .bool s.f.ex, s.f.sl, .int .i64 id, .bool f.ex, f.sl] ∧ HIn w a ss cp ∧ SIn w s ∧ FOk w f ∧ f.srcs.length ≤ 1125899906842624 := by
  obtain ⟨cs, rfl, hsz⟩ := okWide_struct Try.underlying40 hv
  obtain ⟨l⟩ := cs
  have hl : l.length = 8 := by
    have : Try.prog.cellsOf 40 = 8 := by kernel_rfl
    rw [← this, ← hsz]; rfl
  match l, hl with
  | [c0, c1, c2, c3, c4, c5, c6, c7], _ =>
  obtain ⟨fuel, hf⟩ := h
  obtain ⟨xs, n, _, hx, _, hlen, hg⟩ := DataW.trod_struct Try.underlying40 hf
  have hl4 : xs.length = 4 := by rw [hlen]; rfl
  have g0 := get_field hg 0 0 36 1 rfl rfl rfl (by kernel_rfl) (by omega)
  have g1 := get_field hg 1 1 38 4 rfl rfl rfl (by kernel_rfl) (by omega)
  have g2 := get_field hg 2 5 3 1 rfl rfl rfl (by kernel_rfl) (by omega)
  have g3 := get_field hg 3 6 25 2 rfl rfl rfl (by kernel_rfl) (by omega)
  have hd : d = .agg (xs.map (·.1)) := by simpa using congrArg Prod.fst hx
  obtain ⟨a, cp, ss, q0, hin⟩ := open_host1 (c := c0) (by simpa [Value.cells] using g0) (weights_field Try.underlying40 hd hz 0 36 rfl rfl _)
  obtain ⟨s, ⟨q1, q2, q3, q4⟩, k1, k2, k3⟩ := open_sk1 (c0 := c1) (c1 := c2) (c2 := c3) (c3 := c4) (by simpa [Value.cells] using g1) (weights_field Try.underlying40 hd hz 1 38 rfl rfl _)
  obtain ⟨id, q5, _, _⟩ := DataW.trod_int Try.underlying3 g2
  obtain ⟨f, q6, q7, k4, k5⟩ := open_flt1 (c0 := c6) (c1 := c7) (by simpa [Value.cells] using g3) (weights_field Try.underlying40 hd hz 3 25 rfl rfl _)
  simp [Value.cells] at q5
  subst q0 q1 q2 q3 q4 q5 q6 q7
  exact ⟨a, cp, ss, s, id, f, rfl, hin, ⟨k1, k2, k3⟩, k4, k5⟩
end
end Go.Proofs.Ytmcbbccbonadjaa
/- Which sockets and hosts are right, and how many sources there are: the document's own answers. -/
namespace Go.Proofs.Ytmcbbccbonadjaa
set_option linter.unusedVariables false
open Go.RowKit

set_option maxRecDepth 100000 in
set_option maxHeartbeats 2000000 in
theorem rSocket (s : Sk) (w : World) (hf : FOk w s.f) (hl : s.f.srcs.length ≤ 1000000000) :
    Calls Try.prog 45 #[.agg #[.int .i64 s.id, .int .u32 s.g, .bool s.f.ex, s.f.sl]] w fun e w' => e = .returned (.bool (decide (okS s))) ∧ Below w.heap.size w w' := by
  obtain ⟨id, g, ⟨ex, srcs, fa, fc⟩⟩ := s
  simp only [Flt.sl] at *
  have HF := Lib.hid hf
  clear hf
  obtain ⟨ask, hask⟩ : ∃ ask, asked g = ask := ⟨_, rfl⟩
  have D2 := Lib.hid hask
  by_cases h1 : (1 : Int) ≤ id
  · cases ask
    · have e : decide (okS ⟨id, g, ⟨ex, srcs, fa, fc⟩⟩) = false := decide_eq_false fun h => by have h4 : asked g = true := h.2.1; rw [hask] at h4; cases h4
      rw [e]
      clear e hask
      go_enter Try.func45, Try.ntmps45
      go_wp2_with fail
      refine (rAsked g _).mono ?_
      rintro e w1 ⟨rfl, rfl⟩
      rw [D2.out]
      go_wp2_with fail
      go_ret
      exact ⟨rfl, bel1 w _⟩
    · by_cases h3 : srcs.length ≤ 16
      · have e : decide (okS ⟨id, g, ⟨ex, srcs, fa, fc⟩⟩) = decide (Inc srcs) := decide_eq_decide.2 ⟨fun h => h.2.2.2, fun h => ⟨h1, hask, h3, h⟩⟩
        rw [e]
        have h3' : (srcs.length : Int) ≤ 16 := by omega
        clear e hask h3
        go_enter Try.func45, Try.ntmps45
        go_wp2_with fail
        refine (rAsked g _).mono ?_
        rintro e w1 ⟨rfl, rfl⟩
        rw [D2.out]
        go_wp2_with fail
        refine (rRight fa srcs.length fc srcs _ rfl (by omega) (HF.out.1.below (bel1 w _))).mono ?_
        rintro e w2 ⟨rfl, hb⟩
        have HB := Lib.hid (bel_up (bel1 w _) hb)
        clear hb
        go_wp2_with fail
        go_ret
        exact ⟨rfl, HB.out⟩
      · have e : decide (okS ⟨id, g, ⟨ex, srcs, fa, fc⟩⟩) = false := decide_eq_false fun h => h3 h.2.2.1
        rw [e]
        have h3' : decide ((srcs.length : Int) ≤ 16) = false := decide_eq_false (by omega)
        clear e hask h3
        go_enter Try.func45, Try.ntmps45
        go_wp2_with fail
        refine (rAsked g _).mono ?_
        rintro e w1 ⟨rfl, rfl⟩
        rw [D2.out]
        go_wp2_with fail
        go_ret
        exact ⟨rfl, bel1 w _⟩
  · have e : decide (okS ⟨id, g, ⟨ex, srcs, fa, fc⟩⟩) = false := decide_eq_false fun h => h1 h.1
    rw [e]
    have h1' : decide ((1 : Int) ≤ id) = false := decide_eq_false h1
    clear e h1 hask
    go_enter Try.func45, Try.ntmps45
    go_wp2_with fail
    refine (rAsked g _).mono ?_
    rintro e w1 ⟨rfl, rfl⟩
    rw [D2.out]
    go_wp2_with fail
    go_ret
    exact ⟨rfl, bel1 w _⟩
set_option maxRecDepth 100000 in
set_option maxHeartbeats 8000000 in
theorem rRightH (a : Option Addr) (n c : Nat) (ss : List Sk) (w : World) (hx : ss.length = n) (hn : n ≤ 1125899906842624) (hl : ∀ s ∈ ss, s.f.srcs.length ≤ 1000000000) (hH : Sks w a ss) :
    Calls Try.prog 18 #[.agg #[.slice a n c]] w fun e w' => e = .returned (.bool (decide (okH ss))) ∧ Below w.heap.size w w' := by
  have HX := Lib.hid hx
  have HL := Lib.hid hl
  have HH := Lib.hid hH
  clear hx hl hH
  go_enter Try.func18, Try.ntmps18
  go_wp2
  go_loopw [3] (fun v3 wr => ∃ k : Nat, v3 = .int .i64 (k : Int) ∧ k ≤ n ∧ (∀ s ∈ ss.take k, okS s) ∧ Ris (ss.take k) ∧ Below w.heap.size w wr ∧ wr.cell? ⟨w.heap.size, 0, none⟩ = some (.slice a n c)) (fun v _ => n - (intOf v).toNat)
  case atStart => exact ⟨0, rfl, by omega, by simp, by simp [Ris], bel1 w _, host_new w _⟩
  case round =>
    obtain ⟨k, rfl, hk, hal, hri, hB, hc0⟩ := hrel
    have HA := Lib.hid hal
    have HRI := Lib.hid hri
    have HB := Lib.hid hB
    have C := Lib.hid hc0
    clear hal hri hB
    by_cases hlt : k < n
    · obtain ⟨b, off, rfl, hc⟩ := HH.out.at (k := k) (by rw [HX.out]; exact hlt)
      obtain ⟨⟨id, g, ⟨ex, srcs, fa, fc⟩⟩, hfk⟩ : ∃ s, ss[k]? = some s := ⟨_, List.getElem?_eq_getElem (by rw [HX.out]; exact hlt)⟩
      obtain ⟨⟨d0, d1, d2, d3⟩, hfo, -⟩ := (hc k _ hfk).below HB.out
      simp only [Flt.sl] at d0 d1 d2 d3 hfo
      have hs := HL.out _ (List.mem_of_getElem? hfk)
      have HFO := Lib.hid hfo
      have HK := Lib.hid hfk
      have HC := Lib.hid hc
      have hkz : (k : Int) < (n : Int) := by omega
      have hR := rSocket ⟨id, g, ⟨ex, srcs, fa, fc⟩⟩ wr hfo hs
      simp only [Flt.sl] at hR
      have HR := Lib.hid hR
      clear hc hfk hfo hR
      obtain ⟨ok, hok⟩ : ∃ ok, decide (okS ⟨id, g, ⟨ex, srcs, fa, fc⟩⟩) = ok := ⟨_, rfl⟩
      rw [hok] at HR
      have HD := Lib.hid hok
      clear hok
      go_wp2_with fail
      refine HR.out.mono ?_
      rintro e w5 ⟨rfl, hb5⟩
      have HB5 := Lib.hid (HB.out.trans (hb5.mono HB.out.size))
      have c5 := (hb5.cell (cell_lt C.out)).trans C.out
      have C5 := Lib.hid c5
      have e5 : ∀ q, (w5.drewN q).cell? ⟨w.heap.size, 0, none⟩ = some (.slice (some ⟨b, off, none⟩) n c) := fun q => c5
      have t5 : ∀ q, (w5.drewN q).cell? ⟨b, off + k * 4, none⟩ = some (.int .i64 id) := fun q => (hb5.cell (cell_lt d0)).trans d0
      clear d0 d1 d2 d3 hc0 C HB
      have k0 : (0 : Int) ≤ (k : Int) := by omega
      cases ok
      · have hno : Hid (¬ okS ⟨id, g, ⟨ex, srcs, fa, fc⟩⟩) := Lib.hid (of_decide_eq_false HD.out)
        go_wp2
        go_quiet (fail)
        go_wp2
        go_ret
        exact ⟨ret_bool (decide_eq_false fun h => hno.out (h.1 _ (List.mem_of_getElem? HK.out))).symm, bdrawn HB5.out _⟩
      · have hyes : okS ⟨id, g, ⟨ex, srcs, fa, fc⟩⟩ := of_decide_eq_true HD.out
        have HOK := Lib.hid hyes
        clear hyes
        rcases k with _ | m
        · simp only [Int.ofNat_zero, Nat.zero_mul, Nat.add_zero] at *
          go_wp2
          go_quiet (fail)
          go_wp2
          go_roundw
          case rel => exact ⟨_, by go_num, by omega, by rw [takeS HK.out]; intro x hx; rcases List.mem_append.1 hx with h | h; exact HA.out x h; simp at h; subst h; exact HOK.out, ris_one HK.out, bdrawn HB5.out _, C5.out⟩
          case measure => simp [intOf]; omega
        · obtain ⟨⟨pid, pg, pf⟩, hpk⟩ : ∃ s, ss[m]? = some s := ⟨_, List.getElem?_eq_getElem (by rw [HX.out]; omega)⟩
          have hpc := ((HC.out m _ hpk).below HB5.out).1.1
          have p5 : ∀ q, (w5.drewN q).cell? ⟨b, off + m * 4, none⟩ = some (.int .i64 pid) := fun q => hpc
          have HP := Lib.hid hpk
          have hm1 : ((m + 1 : Nat) : Int) = (m : Int) + 1 := by omega
          rw [hm1] at *
          have hm0 : (0 : Int) < (m : Int) + 1 := by omega
          have hm2 : (m : Int) < (n : Int) := by omega
          have hm3 : (0 : Int) ≤ (m : Int) := by omega
          clear hpc hpk hm1
          by_cases hge : id ≤ pid
          · have hge1 : id ≤ pid := hge
            go_wp2
            go_quiet (fail)
            go_wp2
            go_ret
            exact ⟨ret_bool (decide_eq_false fun h => ris_not HK.out HP.out (by show ¬ pid < id; omega) h.2.1).symm, bdrawn HB5.out _⟩
          · have hge1 : decide (id ≤ pid) = false := decide_eq_false hge
            have hlt2 : Hid (pid < id) := Lib.hid (by omega)
            clear hge
            go_wp2
            go_quiet (fail)
            go_wp2
            go_roundw
            case rel => exact ⟨_, by go_num, by omega, by rw [takeS HK.out]; intro x hx; rcases List.mem_append.1 hx with h | h; exact HA.out x h; simp at h; subst h; exact HOK.out, ris_step HRI.out HK.out HP.out hlt2.out, bdrawn HB5.out _, C5.out⟩
            case measure => simp [intOf]; omega
    · obtain rfl : k = n := by omega
      have htk : ss.take k = ss := List.take_of_length_le (by rw [HX.out]; exact Nat.le_refl _)
      have HA' := HA.out
      have HRI' := HRI.out
      rw [htk] at HA' HRI'
      have HA2 := Lib.hid HA'
      have HRI2 := Lib.hid HRI'
      clear HA' HRI' htk
      have hle : decide ((k : Int) ≤ 32) = decide (okH ss) := decide_eq_decide.2 ⟨fun h => ⟨HA2.out, HRI2.out, by rw [HX.out]; omega⟩, fun h => by have := h.2.2; rw [HX.out] at this; omega⟩
      have HLE := Lib.hid hle
      clear hle
      go_wp2_with fail
      go_ret
      exact ⟨ret_bool HLE.out, HB.out⟩
/-- How many sources there are. -/
def fl : List Sk → Nat
  | [] => 0
  | s :: r => s.f.srcs.length + fl r
theorem fl_app (a b : List Sk) : fl (a ++ b) = fl a + fl b := by
  induction a with
  | nil => simp [fl]
  | cons f r ih => simp [fl, ih]; omega
theorem fl_succ {ss : List Sk} {k : Nat} {s : Sk} (h : ss[k]? = some s) : fl (ss.take (k + 1)) = fl (ss.take k) + s.f.srcs.length := by
  rw [takeS h, fl_app]; simp [fl]
theorem fl_take (ss : List Sk) (k : Nat) : fl (ss.take k) ≤ fl ss := by
  have := fl_app (ss.take k) (ss.drop k)
  rw [List.take_append_drop] at this
  omega
theorem fl_mem {ss : List Sk} {s : Sk} (h : s ∈ ss) : s.f.srcs.length ≤ fl ss := by
  induction ss with
  | nil => cases h
  | cons g r ih =>
    simp only [fl]
    rcases List.mem_cons.1 h with rfl | h
    · omega
    · have := ih h; omega
set_option maxRecDepth 100000 in
set_option maxHeartbeats 4000000 in
theorem rFewH (a : Option Addr) (n c : Nat) (ss : List Sk) (w : World) (hx : ss.length = n) (hn : n ≤ 1125899906842624) (hl : ∀ s ∈ ss, s.f.srcs.length ≤ 1125899906842624) (hH : Sks w a ss) :
    Calls Try.prog 17 #[.agg #[.slice a n c]] w fun e w' => e = .returned (.bool (decide (ss.length + fl ss ≤ 600))) ∧ Below w.heap.size w w' := by
  have HX := Lib.hid hx
  have HL := Lib.hid hl
  have HH := Lib.hid hH
  have HT := Lib.hid (fl_take ss)
  clear hx hl hH
  go_enter Try.func17, Try.ntmps17
  go_wp2
  go_loopw [3, 4] (fun v3 v4 wr => ∃ k t : Nat, v3 = .int .i64 (t : Int) ∧ t = n + fl (ss.take k) ∧ v4 = .int .i64 (k : Int) ∧ k ≤ n ∧ t ≤ 2251799813685848 ∧ Below w.heap.size w wr ∧ wr.cell? ⟨w.heap.size, 0, none⟩ = some (.slice a n c)) (fun _ v _ => n - (intOf v).toNat)
  case atStart => exact ⟨0, n, rfl, by simp [fl], rfl, by omega, by omega, bel1 w _, host_new w _⟩
  case round =>
    obtain ⟨k, t, rfl, ht, rfl, hk, hbd, hB, hc0⟩ := hrel
    have HTT := Lib.hid ht
    have HB := Lib.hid hB
    clear ht hB
    by_cases hlt : k < n
    · have hkz : (k : Int) < (n : Int) := by omega
      by_cases hbig : t ≤ 600
      · obtain ⟨b, off, rfl, hc⟩ := HH.out.at (k := k) (by rw [HX.out]; exact hlt)
        obtain ⟨⟨id, g, ⟨ex, srcs, fa, fc⟩⟩, hfk⟩ : ∃ s, ss[k]? = some s := ⟨_, List.getElem?_eq_getElem (by rw [HX.out]; exact hlt)⟩
        obtain ⟨⟨_, _, _, d3⟩, _⟩ := (hc k _ hfk).below HB.out
        simp only [Flt.sl] at d3
        have hs := HL.out _ (List.mem_of_getElem? hfk)
        simp only [] at hs
        have HS := Lib.hid (fl_succ hfk)
        simp only [] at HS
        have hbz : (t : Int) ≤ 600 := by omega
        obtain ⟨sn, hsn⟩ : ∃ sn, srcs.length = sn := ⟨_, rfl⟩
        rw [hsn] at d3 hs HS
        clear hc hfk hsn
        go_wp2
        go_roundw
        case rel => exact ⟨k + 1, t + sn, by go_num, by rw [HS.out, HTT.out]; omega, by go_num, by omega, by omega, HB.out, hc0⟩
        case measure => simp [intOf]; omega
      · have hbz : decide ((t : Int) ≤ 600) = false := decide_eq_false (by omega)
        have hno : decide (ss.length + fl ss ≤ 600) = false := decide_eq_false (by have h1 := HT.out k; have h2 := HTT.out; have h3 := HX.out; omega)
        have HNO := Lib.hid hno
        clear hno
        go_wp2
        go_ret
        exact ⟨ret_bool HNO.out.symm, HB.out⟩
    · obtain rfl : k = n := by omega
      have htk : ss.take k = ss := List.take_of_length_le (by rw [HX.out]; exact Nat.le_refl _)
      have hle : decide ((t : Int) ≤ 600) = decide (ss.length + fl ss ≤ 600) := decide_eq_decide.2 (by have h1 := HTT.out; rw [htk] at h1; have h2 := HX.out; omega)
      have HLE := Lib.hid hle
      clear hle htk
      go_wp2
      go_ret
      exact ⟨ret_bool HLE.out, HB.out⟩
end Go.Proofs.Ytmcbbccbonadjaa
/- What a host answers. -/
namespace Go.Proofs.Ytmcbbccbonadjaa
set_option linter.unusedVariables false
open Go.RowKit

/-- What is said of a group as it is. -/
def tel (ss : List Sk) (g : Int) : List Rc := if (wants g ss).1 then [⟨2, g, (wants g ss).2, none, 0⟩] else if 0 < (wants g ss).2.length then [⟨1, g, (wants g ss).2, none, 0⟩] else []
def tell (ss : List Sk) (gs : List Int) : List Rc := gs.flatMap (tel ss)
theorem tell_succ (ss : List Sk) {gs : List Int} {k : Nat} (h : k < gs.length) : tell ss (gs.take (k + 1)) = tell ss (gs.take k) ++ tel ss (gs.getD k 0) := by
  rw [take_succ' h]; simp [tell]
theorem tel_le (ss : List Sk) (g : Int) : (tel ss g).length ≤ 1 := by unfold tel; split <;> (try split) <;> simp
theorem tell_len (ss : List Sk) : ∀ gs : List Int, (tell ss gs).length ≤ gs.length
  | [] => by simp [tell]
  | g :: gs => by
    have h1 := tell_len ss gs
    have h2 := tel_le ss g
    simp only [tell, List.flatMap_cons, List.length_append, List.length_cons] at *
    omega
/-- A record's sources lie apart from a row. -/
def SepA (a : Option Addr) (r : Rc) : Prop := ∀ b off, r.srcs ≠ [] → r.a = some ⟨b, off, none⟩ → a ≠ some ⟨b, 0, none⟩
theorem rcok_sep {w w' : World} {a a' : Option Addr} {r : Rc} (h : RcOk w r) (hs : SepA a r) (hq : ∀ q, q < w.heap.size → a ≠ some ⟨q, 0, none⟩ → w'.heap[q]? = w.heap[q]? ∧ a' ≠ some ⟨q, 0, none⟩) : RcOk w' r ∧ SepA a' r := by
  by_cases he : r.srcs = []
  · exact ⟨⟨⟨.inl he, h.1.2⟩, h.2⟩, fun b off hn => absurd he hn⟩
  · obtain ⟨b, off, e, hc⟩ : ∃ b off, r.a = some ⟨b, off, none⟩ ∧ ∀ k, k < r.srcs.length → w.cell? ⟨b, off + k, none⟩ = some (.int .u32 (r.srcs.getD k 0)) := by
      rcases h.1.1 with e | h
      · exact absurd e he
      · exact h
    have hl : 0 < r.srcs.length := List.length_pos_iff.2 he
    have hb : b < w.heap.size := cell_lt (hc 0 hl)
    obtain ⟨h1, h2⟩ := hq b hb (hs b off he e)
    refine ⟨⟨⟨.inr ⟨b, off, e, fun k hk => by rw [World.cell?_of_block (w := w) h1]; exact hc k hk⟩, h.1.2⟩, h.2⟩, fun b' off' _ e' => ?_⟩
    rw [e] at e'
    cases e'
    exact h2
theorem own_ne {w : World} {B n size c : Nat} {a : Option Addr} {e : TypeId} {xs : List Value} (h : w.ownsRow B e size (.slice a n c) n xs) {q : Nat} (hq : w.heap.size ≤ q) : a ≠ some ⟨q, 0, none⟩ := by
  rcases h.2 with ⟨e1, _⟩ | ⟨g, cap, cur, e1, _, hg, _⟩
  · cases e1; intro e; cases e
  · cases e1
    intro e
    cases e
    have := (Array.getElem?_eq_some_iff.1 hg).1
    omega
theorem sep_new {w : World} {B n size c : Nat} {a : Option Addr} {e : TypeId} {xs : List Value} (h : w.ownsRow B e size (.slice a n c) n xs) {r : Rc} (hf : FreshA w r.a r.srcs) : SepA a r := by
  intro b off hn e'
  rcases hf with hf | ⟨g, off2, e2, hg⟩
  · exact absurd hf hn
  · rw [e'] at e2; cases e2
    exact own_ne h hg
set_option maxRecDepth 100000 in
set_option maxHeartbeats 8000000 in
theorem hTold (a : Option Addr) (n c : Nat) (ss : List Sk) (b : Option Addr) (m cb : Nat) (gs : List Int) (w : World) (hx : ss.length = n) (hfew : FewS ss) (hH : Sks w a ss) (hy : gs.length = m) (hm : m ≤ 1000) (hG : As w b gs) :
    Calls Try.prog 60 #[.agg #[.slice a n c], .slice b m cb] w fun e w' => OutR w e w' (tell ss gs) := by
  obtain ⟨i0, hi, hz0, hz1, hz2⟩ := info_parts infoRec
  have HX := Lib.hid hx
  have HY := Lib.hid hy
  have HH := Lib.hid hH
  have HG := Lib.hid hG
  have HW := Lib.hid hfew
  have HTL := Lib.hid (tell_len ss)
  clear hx hy hH hG hfew
  go_enter Try.func60, Try.ntmps60
  go_wp2
  have HB0 := Lib.hid (bel1 w (.cells #[.slice a n c] 36))
  have HN0 := Lib.hid (host_new w (.slice a n c))
  have HN1 : Hid ((w.alloc (.cells #[.slice a n c] 36)).heap.size = w.heap.size + 1) := Lib.hid (World.size_alloc _ _)
  generalize w.alloc (.cells #[.slice a n c] 36) = w1 at *
  go_loopw [5, 11] (fun v5 v11 wr => ∃ (k : Nat) (a5 : Option Addr) (c5 : Nat) (rs : List Rc), v5 = .slice a5 (tell ss (gs.take k)).length c5 ∧ v11 = .int .i64 (k : Int) ∧ k ≤ m ∧ rs.map Rc.nm = (tell ss (gs.take k)).map Rc.nm ∧ (∀ r ∈ rs, RcOk wr r ∧ SepA a5 r) ∧ wr.ownsRow w1.heap.size 68 3 (.slice a5 (tell ss (gs.take k)).length c5) (tell ss (gs.take k)).length (rv rs) ∧
    Below w1.heap.size w1 wr) (fun _ v _ => m - (intOf v).toNat)
  case atStart => exact ⟨0, none, 0, [], by simp [tell], rfl, by omega, by simp [tell], by simp, by simpa [tell, rv] using World.ownsRow_nil _ _ _ _, Below.refl _ _⟩
  case round =>
    obtain ⟨k, a5, c5, rs, rfl, rfl, hk, hnm, hok, ho, hB⟩ := hrel
    have HNM := Lib.hid hnm
    have HOK := Lib.hid hok
    have HO := Lib.hid ho
    have HB := Lib.hid hB
    have hol : (tell ss (gs.take k)).length ≤ 1000 := by have h1 := HTL.out (gs.take k); have h2 := List.length_take_le' k gs; have h3 := HY.out; omega
    have HC := Lib.hid ((hB.cell (cell_lt HN0.out)).trans HN0.out)
    have HBW := Lib.hid (HB0.out.trans (hB.mono HB0.out.size))
    clear hnm hok ho hB
    by_cases hlt : k < m
    · obtain ⟨bb, off, rfl, hc⟩ := HG.out.at (k := k) (by rw [HY.out]; exact hlt)
      have d0 := ((HBW.out.cell (cell_lt (hc k (by rw [HY.out]; exact hlt)))).trans (hc k (by rw [HY.out]; exact hlt)))
      have HS := Lib.hid (tell_succ ss (k := k) (gs := gs) (by rw [HY.out]; exact hlt))
      obtain ⟨g, hg⟩ : ∃ g, gs.getD k 0 = g := ⟨_, rfl⟩
      rw [hg] at d0 HS
      have hkz : (k : Int) < (m : Int) := by omega
      have c0 := HC.out
      clear hc hg
      go_wp2_with fail
      refine (hWants2 a n c ss g wr HX.out HW.out (HH.out.below HBW.out)).mono ?_
      obtain ⟨⟨e1, l1⟩, hw1⟩ : ∃ p, wants g ss = p := ⟨_, rfl⟩
      have hll := flt_len (ofG_few (g := g) HW.out)
      rw [show flt (ofG g ss) = (e1, l1) from hw1] at hll
      replace hll : l1.length ≤ 160000 := hll
      rw [hw1]
      have HW1 := Lib.hid hw1
      clear hw1
      rintro e w5 ⟨⟨a6, c6, rfl, hA6, hf6⟩, hb⟩
      obtain ⟨l, hl⟩ : ∃ l, l1.length = l := ⟨_, rfl⟩
      rw [hl] at hll ⊢
      have HL1 := Lib.hid hl
      have HA6 := Lib.hid hA6
      have HF6 := Lib.hid (flat_nil' hf6.1)
      have HSP := Lib.hid (show SepA a5 ⟨0, g, l1, a6, c6⟩ from sep_new HO.out hf6.2)
      have HB5 := Lib.hid (HB.out.trans (hb.mono HB.out.size))
      have HO5 := Lib.hid (own_grown HO.out hb (Nat.le_refl _))
      have HOK5 := Lib.hid (fun r hr => (⟨(HOK.out r hr).1.below hb, (HOK.out r hr).2⟩ : RcOk w5 r ∧ SepA a5 r))
      clear hA6 hf6 hb hl HO HOK HB HC c0 d0
      cases e1
      · have HT : Hid (tel ss g = if 0 < l then [⟨1, g, l1, none, 0⟩] else []) := Lib.hid (by unfold tel; rw [HW1.out]; simp [HL1.out])
        go_wp2_with fail
        refine (hIsSome false a6 l c6 _).mono ?_
        rintro e w6 ⟨rfl, hb⟩
        have hb5 := bel1 w5 (.cells #[.bool false, .slice a6 l c6] 25)
        have hb6 := hb5.trans (hb.mono hb5.size)
        obtain ⟨p0, p1⟩ := filt_new w5 (.bool false) (.slice a6 l c6)
        have p1 := (hb.cell (cell_lt p1)).trans p1
        have HA6 := Lib.hid (HA6.out.below hb6)
        have HB6 := Lib.hid (HB5.out.trans (hb6.mono HB5.out.size))
        have HO6 := Lib.hid (own_grown HO5.out hb6 (Nat.le_refl _))
        have HOK6 := Lib.hid (fun r hr => (⟨(HOK5.out r hr).1.below hb6, (HOK5.out r hr).2⟩ : RcOk w6 r ∧ SepA a5 r))
        clear hb hb5 hb6 p0 HO5 HOK5 HB5
        by_cases h0 : 0 < l
        · rw [decide_eq_true h0, Bool.false_or]
          rw [if_pos h0] at HT
          clear h0
          have hn1 := news_new (w6) [.int .u8 1, .int .u32 g, .slice a6 l c6] 68
          have HN3 := Lib.hid hn1
          clear hn1
          go_wp2_with ((refine wpList_app_one rfl 42 68 i0 _ 3 32 Try.underlying42 hi hz0 hz1 hz2 rfl (by decide) (by omega) (.tmp 31) (.tmp 36) rfl w1.heap.size a5 (tell ss (gs.take k)).length c5 (rv rs) rfl (HO6.out.alloc _) ⟨w6.heap.size, 0, none⟩ 1 [.int .u8 1, .int .u32 g, .slice a6 l c6] rfl rfl HN3.out (by simp [Value.oneCell']) (by omega) (by have h9 := HB6.out.size; first | (simp at h9 ⊢; omega) | (simp; omega)) ?_; intro a' cap' w' hown hgb hsp))
          go_roundw
          case rel =>
            have e : tell ss (gs.take (k + 1)) = tell ss (gs.take k) ++ [⟨1, g, l1, none, 0⟩] := by rw [HS.out, HT.out]
            have hgb' : Below w1.heap.size (w6) w' := ((Below.refl w1.heap.size (w6)).alloc HB6.out.size _).trans hgb.out
            have hst : ∀ r ∈ rs ++ [⟨1, g, l1, a6, c6⟩], RcOk w' r ∧ SepA a' r := fun r hr => by
              have hk' : RcOk (w6) r ∧ SepA a5 r := by
                rcases List.mem_append.1 hr with h | h
                · exact HOK6.out r h
                · simp at h; subst h; exact ⟨⟨HA6.out, HF6.out⟩, HSP.out⟩
              exact rcok_sep (hk'.1.below (bel1 _ _)) hk'.2 hsp.out
            refine ⟨k + 1, a', cap', rs ++ [⟨1, g, l1, a6, c6⟩], by rw [e, List.length_append]; rfl, by go_num, by omega, by rw [e, List.map_append, List.map_append, HNM.out]; rfl, hst, ?_, HB6.out.trans hgb'⟩
            rw [e, List.length_append, rv_snoc]
            simp only [Rc.cs, Rc.sl, HL1.out]
            exact hown.out
          case measure => simp [intOf]; omega
        · rw [decide_eq_false h0, Bool.false_or]
          rw [if_neg h0] at HT
          clear h0 p1
          go_wp2
          go_roundw
          case rel =>
            have e : tell ss (gs.take (k + 1)) = tell ss (gs.take k) := by rw [HS.out, HT.out, List.append_nil]
            exact ⟨k + 1, a5, c5, rs, by rw [e], by go_num, by omega, by rw [e]; exact HNM.out, HOK6.out, by rw [e]; exact HO6.out, HB6.out⟩
          case measure => simp [intOf]; omega
      · have HT : Hid (tel ss g = [⟨2, g, l1, none, 0⟩]) := Lib.hid (by unfold tel; rw [HW1.out]; simp)
        have hb5 := bel1 w5 (.cells #[.bool true, .slice a6 l c6] 25)
        have HA6 := Lib.hid (HA6.out.below hb5)
        have HO6 := Lib.hid (HO5.out.alloc (.cells #[.bool true, .slice a6 l c6] 25))
        have HB6 := Lib.hid (HB5.out.trans (hb5.mono HB5.out.size))
        have HOK6 := Lib.hid (fun r hr => (⟨(HOK5.out r hr).1.below hb5, (HOK5.out r hr).2⟩ : RcOk (w5.alloc (.cells #[.bool true, .slice a6 l c6] 25)) r ∧ SepA a5 r))
        clear hb5 HO5 HOK5 HB5
        have hn1 := news_new (w5.alloc (.cells #[.bool true, .slice a6 l c6] 25)) [.int .u8 2, .int .u32 g, .slice a6 l c6] 68
        rw [World.size_alloc] at hn1
        have HN3 := Lib.hid hn1
        clear hn1
        go_wp2_with ((refine wpList_app_one rfl 42 68 i0 _ 3 32 Try.underlying42 hi hz0 hz1 hz2 rfl (by decide) (by omega) (.tmp 21) (.tmp 26) rfl w1.heap.size a5 (tell ss (gs.take k)).length c5 (rv rs) rfl (HO6.out.alloc _) ⟨w5.heap.size + 1, 0, none⟩ 1 [.int .u8 2, .int .u32 g, .slice a6 l c6] rfl rfl HN3.out (by simp [Value.oneCell']) (by omega) (by have h9 := HB6.out.size; first | (simp at h9 ⊢; omega) | (simp; omega)) ?_; intro a' cap' w' hown hgb hsp))
        go_roundw
        case rel =>
          have e : tell ss (gs.take (k + 1)) = tell ss (gs.take k) ++ [⟨2, g, l1, none, 0⟩] := by rw [HS.out, HT.out]
          have hgb' : Below w1.heap.size (w5.alloc (.cells #[.bool true, .slice a6 l c6] 25)) w' := ((Below.refl w1.heap.size (w5.alloc (.cells #[.bool true, .slice a6 l c6] 25))).alloc HB6.out.size _).trans hgb.out
          have hst : ∀ r ∈ rs ++ [⟨2, g, l1, a6, c6⟩], RcOk w' r ∧ SepA a' r := fun r hr => by
            have hk' : RcOk (w5.alloc (.cells #[.bool true, .slice a6 l c6] 25)) r ∧ SepA a5 r := by
              rcases List.mem_append.1 hr with h | h
              · exact HOK6.out r h
              · simp at h; subst h; exact ⟨⟨HA6.out, HF6.out⟩, HSP.out⟩
            exact rcok_sep (hk'.1.below (bel1 _ _)) hk'.2 hsp.out
          refine ⟨k + 1, a', cap', rs ++ [⟨2, g, l1, a6, c6⟩], by rw [e, List.length_append]; rfl, by go_num, by omega, by rw [e, List.map_append, List.map_append, HNM.out]; rfl, hst, ?_, HB6.out.trans hgb'⟩
          rw [e, List.length_append, rv_snoc]
          simp only [Rc.cs, Rc.sl, HL1.out]
          exact hown.out
        case measure => simp [intOf]; omega
    · obtain rfl : k = m := by omega
      have htk : gs.take k = gs := List.take_of_length_le (by rw [HY.out]; exact Nat.le_refl _)
      have HO' := HO.out
      have HNM' := HNM.out
      rw [htk] at HO' HNM' hol ⊢
      have HO2 := Lib.hid HO'
      have HNM2 := Lib.hid HNM'
      have hl := congrArg List.length HNM'
      rw [List.length_map, List.length_map] at hl
      have HLL := Lib.hid hl
      clear HO HO' HNM HNM' htk hl
      go_wp2_with fail
      go_ret
      have hr := own_rcs HO2.out HLL.out fun r hr => (HOK.out r hr).1
      obtain ⟨a', c', e', hfl⟩ := own_sl HO2.out
      cases e'
      exact ⟨⟨_, _, rs, by rw [HLL.out]; rfl, HNM2.out, hr, flat_nil' hfl⟩, HBW.out⟩
end Go.Proofs.Ytmcbbccbonadjaa
/- Answer: what is said to a query. -/
namespace Go.Proofs.Ytmcbbccbonadjaa
set_option linter.unusedVariables false
open Go.RowKit

def wantd (f : Bool × List Int) (ls : List Int) : List Int := if f.1 then dif ls f.2 else int ls f.2
theorem wantd_len (f : Bool × List Int) (ls : List Int) : (wantd f ls).length ≤ ls.length := by unfold wantd; split; exact dif_len _ _; exact int_len _ _
set_option maxRecDepth 100000 in
set_option maxHeartbeats 1000000 in
theorem hWanted (e1 : Bool) (a : Option Addr) (n c : Nat) (xs : List Int) (b : Option Addr) (m cb : Nat) (ls : List Int) (w : World) (hx : xs.length = n) (hy : ls.length = m) (hn : n ≤ 400000) (hm : m ≤ 400000) (h1 : As w a xs) (h2 : As w b ls) :
    Calls Try.prog 61 #[.agg #[.bool e1, .slice a n c], .slice b m cb] w fun e w' => Out w e w' (wantd (e1, xs) ls) := by
  have HX := Lib.hid hx
  have HY := Lib.hid hy
  have hb1 := bel1 w (.cells #[.bool e1, .slice a n c] 25)
  have H1 := Lib.hid (h1.below hb1)
  have H2 := Lib.hid (h2.below hb1)
  have HB := Lib.hid hb1
  clear hx hy h1 h2 hb1
  cases e1
  · have HW : Hid (wantd (false, xs) ls = int ls xs) := Lib.hid rfl
    go_enter Try.func61, Try.ntmps61
    go_wp2_with fail
    refine (sInter b a m n cb c ls xs _ HY.out HX.out (by omega) (by omega) H2.out H1.out).mono ?_
    rintro e w2 ⟨⟨a2, c2, rfl, hA, hf⟩, hb⟩
    have HA := Lib.hid hA
    have HF := Lib.hid hf
    have HB := Lib.hid (HB.out.trans (hb.mono HB.out.size))
    clear hA hf hb
    go_wp2_with fail
    go_ret
    rw [HW.out]
    exact ⟨⟨a2, c2, rfl, HA.out, HF.out⟩, HB.out⟩
  · have HW : Hid (wantd (true, xs) ls = dif ls xs) := Lib.hid rfl
    go_enter Try.func61, Try.ntmps61
    go_wp2_with fail
    refine (sMinus b a m n cb c ls xs _ HY.out HX.out (by omega) (by omega) H2.out H1.out).mono ?_
    rintro e w2 ⟨⟨a2, c2, rfl, hA, hf⟩, hb⟩
    have HA := Lib.hid hA
    have HF := Lib.hid hf
    have HB := Lib.hid (HB.out.trans (hb.mono HB.out.size))
    clear hA hf hb
    go_wp2_with fail
    go_ret
    rw [HW.out]
    exact ⟨⟨a2, c2, rfl, HA.out, HF.out⟩, HB.out⟩
/-- What is said to a query. -/
def answer (ss : List Sk) (kind g : Int) (ls : List Int) : List Rc :=
  if kind = 17 then (if g = 0 then tell ss (mk (grp ss)) else if ls = [] then tell ss [g] else if wantd (wants g ss) (mk ls) = [] then [] else [⟨1, g, wantd (wants g ss) (mk ls), none, 0⟩]) else []
theorem igmp_new (w : World) (v0 v1 v2 v3 v4 v5 v6 v7 v8 : Value) : (w.alloc (.cells #[v0, v1, v2, v3, v4, v5, v6, v7, v8] 56)).cell? ⟨w.heap.size, 0, none⟩ = some v0 ∧ (w.alloc (.cells #[v0, v1, v2, v3, v4, v5, v6, v7, v8] 56)).cell? ⟨w.heap.size, 3, none⟩ = some v3 ∧ (w.alloc (.cells #[v0, v1, v2, v3, v4, v5, v6, v7, v8] 56)).cell? ⟨w.heap.size, 7, none⟩ = some v7 := by
  have hN := Go.Deep.blk_alloc_new w (.cells #[v0, v1, v2, v3, v4, v5, v6, v7, v8] 56)
  exact ⟨by simp only [World.cell?, hN]; rfl, by simp only [World.cell?, hN]; rfl, by simp only [World.cell?, hN]; rfl⟩
theorem grp_len (ss : List Sk) : (mk (grp ss)).length ≤ ss.length := Nat.le_trans (mk_len _) (by unfold grp; rw [List.length_map]; exact List.length_filter_le _ _)
def anV (a : Option Addr) (n c : Nat) (ss : List Sk) : Nat → Value → List Value → World → Prop
  | 0, v, _, _ => v = .agg #[.slice a n c]
  | 1, v, _, _ => v = .agg #[.slice a n c]
  | 2, v, _, w => ∃ (a16 : Option Addr) (c16 : Nat), v = .slice a16 (mk (grp ss)).length c16 ∧ As w a16 (mk (grp ss))
  | 3, v, _, w => ∃ (b17 : Option Addr) (d17 : Nat) (rs17 : List Rc), v = .slice b17 (List.length rs17) d17 ∧ rs17.map Rc.nm = (tell ss (mk (grp ss))).map Rc.nm ∧ Rcs w b17 rs17 ∧ (b17 = none → d17 = 0)
  | 4, v, us, w => us = [v]
  | _, _, _, _ => True
def anD : Nat → List Nat
  | 2 => [1]
  | 3 => [0, 2]
  | 4 => [3]
  | _ => []
theorem an_st (a : Option Addr) (n c : Nat) (ss : List Sk) {i : Nat} {v : Value} {us : List Value} {w w' : World}  (hr : Below w.heap.size w w') (hv : anV a n c ss i v us w) : anV a n c ss i v us w' := by
  unfold anV at hv ⊢
  split at hv
  all_goals first
    | exact hv
    | (obtain ⟨a16, c16, e, h16⟩ := hv; exact ⟨a16, c16, e, h16.below hr⟩)
    | (obtain ⟨b17, d17, rs17, e, m17, k17, n17⟩ := hv; exact ⟨b17, d17, rs17, e, m17, k17.below hr, n17⟩)
def aoV (N : Nat) (a : Option Addr) (n c : Nat) (g : Int) (b : Option Addr) (m cb : Nat) (p1 : Bool) (l1 ls : List Int) : Nat → Value → List Value → World → Prop
  | 0, v, _, _ => v = .agg #[.slice a n c]
  | 1, v, _, _ => v = .pointer (some ⟨N + 1, 3, none⟩)
  | 2, v, _, _ => v = .int .u32 g
  | 3, v, _, w => ∃ (a31 : Option Addr) (c31 : Nat), v = .agg #[.bool p1, .slice a31 l1.length c31] ∧ As w a31 l1
  | 4, v, _, _ => v = .pointer (some ⟨N + 1, 7, none⟩)
  | 5, v, _, _ => v = .slice b m cb
  | 6, v, _, w => ∃ (a34 : Option Addr) (c34 : Nat), v = .slice a34 (mk ls).length c34 ∧ As w a34 (mk ls)
  | 7, v, _, w => ∃ (a35 : Option Addr) (c35 : Nat), v = .slice a35 (wantd (p1, l1) (mk ls)).length c35 ∧ As w a35 (wantd (p1, l1) (mk ls)) ∧ (a35 = none → c35 = 0)
  | 8, v, us, w => us = [v]
  | _, _, _, _ => True
def aoD : Nat → List Nat
  | 2 => [1]
  | 3 => [0, 2]
  | 5 => [4]
  | 6 => [5]
  | 7 => [3, 6]
  | 8 => [7]
  | _ => []
theorem ao_st (N : Nat) (a : Option Addr) (n c : Nat) (g : Int) (b : Option Addr) (m cb : Nat) (p1 : Bool) (l1 ls : List Int) {i : Nat} {v : Value} {us : List Value} {w w' : World}  (hr : Below w.heap.size w w') (hv : aoV N a n c g b m cb p1 l1 ls i v us w) : aoV N a n c g b m cb p1 l1 ls i v us w' := by
  unfold aoV at hv ⊢
  split at hv
  all_goals first
    | exact hv
    | (obtain ⟨a31, c31, e, h31⟩ := hv; exact ⟨a31, c31, e, h31.below hr⟩)
    | (obtain ⟨a34, c34, e, h34⟩ := hv; exact ⟨a34, c34, e, h34.below hr⟩)
    | (obtain ⟨a35, c35, e, h35, n35⟩ := hv; exact ⟨a35, c35, e, h35.below hr, n35⟩)
set_option maxRecDepth 100000 in
set_option maxHeartbeats 8000000 in
theorem hAnswer (a : Option Addr) (n c : Nat) (ss : List Sk) (kind ver code g rob every : Int) (quiet : Bool) (b : Option Addr) (m cb : Nat) (ls : List Int) (rsv : Value) (w : World) (hx : ss.length = n) (hfew : FewS ss) (hH : Sks w a ss) (hy : ls.length = m) (hm : m ≤ 100000) (hL : As w b ls) (hg : 0 ≤ g ∧ g ≤ 4294967295) :
    Calls Try.prog 36 #[.agg #[.slice a n c], .agg #[.int .u8 kind, .int .i64 ver, .int .u8 code, .int .u32 g, .bool quiet, .int .u8 rob, .int .u8 every, .slice b m cb, rsv]] w fun e w' => OutR w e w' (answer ss kind g ls) := by
  have hb1 := bel1 w (.cells #[.slice a n c] 36)
  have p0 := host_new w (.slice a n c)
  have hb2 := bel1 (w.alloc (.cells #[.slice a n c] 36)) (.cells #[.int .u8 kind, .int .i64 ver, .int .u8 code, .int .u32 g, .bool quiet, .int .u8 rob, .int .u8 every, .slice b m cb, rsv] 56)
  obtain ⟨q0, q3, q7⟩ := igmp_new (w.alloc (.cells #[.slice a n c] 36)) (.int .u8 kind) (.int .i64 ver) (.int .u8 code) (.int .u32 g) (.bool quiet) (.int .u8 rob) (.int .u8 every) (.slice b m cb) rsv
  rw [World.size_alloc] at q0 q3 q7
  have CH := Lib.hid ((hb2.cell (cell_lt p0)).trans p0)
  have Q3 := Lib.hid q3
  have Q7 := Lib.hid q7
  have hbb := hb1.trans (hb2.mono hb1.size)
  have HB := Lib.hid hbb
  have HH := Lib.hid (hH.below hbb)
  have HL := Lib.hid (hL.below hbb)
  have HX := Lib.hid hx
  have HY := Lib.hid hy
  have HW := Lib.hid hfew
  clear hb1 hb2 hbb p0 hx hy hfew hH hL
  go_enter Try.func36, Try.ntmps36
  by_cases hk : kind = 17
  · subst hk
    by_cases hg0 : g = 0
    · subst hg0
      have HA : Hid (answer ss 17 0 ls = tell ss (mk (grp ss))) := Lib.hid (by unfold answer; rw [if_pos rfl, if_pos rfl])
      go_wp2_with fail
      generalize (w.alloc (.cells #[.slice a n c] 36)).alloc (.cells #[.int .u8 17, .int .i64 ver, .int .u8 code, .int .u32 0, .bool quiet, .int .u8 rob, .int .u8 every, .slice b m cb, rsv] 56) = w1 at *
      refine wp_region_each3 (anV a n c ss) (fun W => Below w1.heap.size w1 W) (fun _ A B => Below A.heap.size A B) anD [14, 15, 16, 17, 4] (by kernel_rfl) (by kernel_rfl) (by kernel_rfl) (Below.refl _ w1).drew
        (fun i j oi oj v us A B hoi hoj hij hw hSA hr hv => an_st _ _ _ _ hr hv) ?hgd
        ⟨?_, ?_, ?_, ?_, ?_, trivial⟩ ?hend
      case hgd =>
        intro i o g b hoi hog v us w hv
        have hi : i < 5 := (Array.getElem?_eq_some_iff.1 hoi).1
        have hc : i = 0 ∨ i = 1 ∨ i = 2 ∨ i = 3 ∨ i = 4 := by omega
        rcases hc with rfl | rfl | rfl | rfl | rfl
        · cases hoi; cases hog
        · cases hoi; cases hog
        · cases hoi; cases hog
        · cases hoi; cases hog
        · cases hoi; cases hog
      case refine_1 =>
        intro a' w9 hS h0 hd
        have e2 : a'.tmps[2]?.getD undef = .pointer (some ⟨w.heap.size, 0, none⟩) := evG (h0 2 (by kernel_rfl))
        have c0 := (hS.cell (cell_lt CH.out)).trans CH.out
        refine Does2.value (.agg #[.slice a n c]) (w' := w9) ?_ ⟨rfl, hS, Below.refl _ _⟩
        clear hS h0 hd
        go_simp
      case refine_2 =>
        intro a' w9 hS h0 hd
        have e2 : a'.tmps[2]?.getD undef = .pointer (some ⟨w.heap.size, 0, none⟩) := evG (h0 2 (by kernel_rfl))
        have c0 := (hS.cell (cell_lt CH.out)).trans CH.out
        refine Does2.value (.agg #[.slice a n c]) (w' := w9) ?_ ⟨rfl, hS, Below.refl _ _⟩
        clear hS h0 hd
        go_simp
      case refine_3 =>
        intro a' w9 hS h0 hd
        have e15 : a'.tmps[15]?.getD undef = .agg #[.slice a n c] := evG (hd 1 List.mem_cons_self)
        refine Does2.call 34 #[.agg #[.slice a n c]] (w' := w9) ?_ ((hGroups a n c ss w9 HX.out HW.out (HH.out.below hS)).mono ?_)
        · clear hS h0 hd
          go_simp
        · rintro e w8 ⟨⟨a8, c8, rfl, hA8, hf8⟩, hb⟩
          exact ⟨_, rfl, ⟨a8, c8, rfl, hA8⟩, hS.trans (hb.mono hS.size), hb⟩
      case refine_4 =>
        intro a' w9 hS h0 hd
        have e14 : a'.tmps[14]?.getD undef = .agg #[.slice a n c] := evG (hd 0 List.mem_cons_self)
        obtain ⟨a16, c16, e16, h16⟩ := hd 2 (List.mem_cons_of_mem _ List.mem_cons_self)
        replace e16 := evG e16
        refine Does2.call 60 #[.agg #[.slice a n c], .slice a16 (mk (grp ss)).length c16] (w' := w9) ?_ ((hTold a n c ss a16 _ c16 (mk (grp ss)) w9 HX.out HW.out (HH.out.below hS) rfl (by have h1 := grp_len ss; have h2 := HW.out.1; omega) h16).mono ?_)
        · clear hS h0 hd h16
          go_simp
        · rintro e w8 ⟨⟨a8, c8, rs8, rfl, m8, k8, n8⟩, hb⟩
          exact ⟨_, rfl, ⟨a8, c8, rs8, rfl, m8, k8, n8⟩, hS.trans (hb.mono hS.size), hb⟩
      case refine_5 =>
        intro a' w9 hS h0 hd
        obtain ⟨b17, d17, rs17, e17, m17, k17, n17⟩ := hd 3 List.mem_cons_self
        replace e17 := evG e17
        have q5 : a'.eval (.tmp 17) = .slice b17 (List.length rs17) d17 := by simp [Act.eval, e17]
        refine Does2.value (.slice b17 (List.length rs17) d17) (w' := w9) ?_ ⟨?_, hS, Below.refl _ _⟩
        · clear hS h0 hd k17 q5
          go_simp
        · show [a'.eval (.tmp 17)] = [Value.slice b17 (List.length rs17) d17]
          rw [q5]
      case hend =>
        intro f w9 hS hv
        obtain ⟨b17, d17, rs17, v17, m17, k17, n17⟩ := hv 3 (by decide)
        replace v17 : f 17 = .slice b17 (List.length rs17) d17 := v17
        have v4 : [f 17] = [f 4] := hv 4 (by decide)
        rw [v17] at v4
        replace v4 : f 4 = .slice b17 (List.length rs17) d17 := by simpa using v4.symm
        simp only [putAll, Act.put, List.setIfInBounds_toArray, List.set_cons_zero, List.set_cons_succ, v4]
        have M17 := Lib.hid m17
        have K17 := Lib.hid k17
        have N17 := Lib.hid n17
        have HB9 := Lib.hid (HB.out.trans (hS.mono HB.out.size))
        clear hS hv v17 v4 m17 k17 n17
        go_wp2_with fail
        go_ret
        rw [HA.out]
        exact ⟨⟨b17, d17, rs17, rfl, M17.out, K17.out, N17.out⟩, HB9.out⟩
    · have hg1 : (g == 0) = false := by simpa using hg0
      rcases ls with _ | ⟨x0, ls⟩
      · obtain rfl : m = 0 := by simpa using HY.out.symm
        have HA : Hid (answer ss 17 g [] = tell ss [g]) := Lib.hid (by unfold answer; rw [if_pos rfl, if_neg hg0, if_pos rfl])
        have c0 := CH.out
        have HSZ : Hid (((w.alloc (.cells #[.slice a n c] 36)).alloc (.cells #[.int .u8 17, .int .i64 ver, .int .u8 code, .int .u32 g, .bool quiet, .int .u8 rob, .int .u8 every, .slice b 0 cb, rsv] 56)).heap.size = w.heap.size + 1 + 1) := Lib.hid (by simp)
        clear hg0
        go_wp2_with fail
        generalize (w.alloc (.cells #[.slice a n c] 36)).alloc (.cells #[.int .u8 17, .int .i64 ver, .int .u8 code, .int .u32 g, .bool quiet, .int .u8 rob, .int .u8 every, .slice b 0 cb, rsv] 56) = w1 at *
        rw [← HSZ.out]
        have hb4 := bel1 w1 (.cells #[.int .u32 g] 27)
        have hnew : As (w1.alloc (.cells #[.int .u32 g] 27)) (some ⟨w1.heap.size, 0, none⟩) [g] := as_new w1 [g] (isA_iff.2 (by simpa using hg))
        have hT := hTold a n c ss (some ⟨w1.heap.size, 0, none⟩) 1 1 [g] (w1.alloc (.cells #[.int .u32 g] 27)) HX.out HW.out (HH.out.below hb4) rfl (by omega) hnew
        refine hT.mono ?_
        clear hT hnew
        rintro e w5 ⟨⟨b5, d5, rs5, rfl, m5, k5, n5⟩, hb⟩
        have M5 := Lib.hid m5
        have K5 := Lib.hid k5
        have N5 := Lib.hid n5
        have HB5 := Lib.hid (HB.out.trans ((hb4.trans (hb.mono hb4.size)).mono HB.out.size))
        clear m5 k5 n5 hb hb4 c0
        go_wp2_with fail
        go_ret
        rw [HA.out]
        exact ⟨⟨b5, d5, rs5, rfl, M5.out, K5.out, N5.out⟩, HB5.out⟩
      · obtain ⟨ls', hls⟩ : ∃ ls', x0 :: ls = ls' := ⟨_, rfl⟩
        have hls0 : ls' ≠ [] := by rw [← hls]; simp
        rw [hls] at HY HL ⊢
        have hm0 : 0 < m := by rw [← HY.out]; exact List.length_pos_iff.2 hls0
        have HFL : Hid (Flat b m cb) := Lib.hid (by
          rcases HL.out.1 with e | ⟨bb, off, e, _⟩
          · exact absurd e hls0
          · exact .inr ⟨bb, off, e⟩)
        clear hls
        have hls := ls'
        obtain ⟨ls, rfl⟩ : ∃ l, l = ls' := ⟨_, rfl⟩
        have hm1 : ((m : Int) == 0) = false := beq_eq_false_iff_ne.2 (by omega)
        obtain ⟨⟨p1, l1⟩, hw1⟩ : ∃ p, wants g ss = p := ⟨_, rfl⟩
        have hll := flt_len (ofG_few (g := g) HW.out)
        rw [show flt (ofG g ss) = (p1, l1) from hw1] at hll
        have HLL : Hid (l1.length ≤ 160000) := Lib.hid hll
        have HW1 := Lib.hid hw1
        clear hw1 hll
        go_wp2_with fail
        generalize (w.alloc (.cells #[.slice a n c] 36)).alloc (.cells #[.int .u8 17, .int .i64 ver, .int .u8 code, .int .u32 g, .bool quiet, .int .u8 rob, .int .u8 every, .slice b m cb, rsv] 56) = w1 at *
        refine wp_region_each3 (aoV w.heap.size a n c g b m cb p1 l1 ls) (fun W => Below w1.heap.size w1 W) (fun _ A B => Below A.heap.size A B) aoD [28, 29, 30, 31, 32, 33, 34, 35, 5] (by kernel_rfl) (by kernel_rfl) (by kernel_rfl) (Below.refl _ w1).drew
          (fun i j oi oj v us A B hoi hoj hij hw hSA hr hv => ao_st _ _ _ _ _ _ _ _ _ _ _ hr hv) ?hgd
          ⟨?_, ?_, ?_, ?_, ?_, ?_, ?_, ?_, ?_, trivial⟩ ?hend
        case hgd =>
          intro i o g b hoi hog v us w hv
          have hi : i < 9 := (Array.getElem?_eq_some_iff.1 hoi).1
          have hc : i = 0 ∨ i = 1 ∨ i = 2 ∨ i = 3 ∨ i = 4 ∨ i = 5 ∨ i = 6 ∨ i = 7 ∨ i = 8 := by omega
          rcases hc with rfl | rfl | rfl | rfl | rfl | rfl | rfl | rfl | rfl
          · cases hoi; cases hog
          · cases hoi; cases hog
          · cases hoi; cases hog
          · cases hoi; cases hog
          · cases hoi; cases hog
          · cases hoi; cases hog
          · cases hoi; cases hog
          · cases hoi; cases hog
          · cases hoi; cases hog
        case refine_1 =>
          intro a' w9 hS h0 hd
          have e2 : a'.tmps[2]?.getD undef = .pointer (some ⟨w.heap.size, 0, none⟩) := evG (h0 2 (by kernel_rfl))
          have c0 := (hS.cell (cell_lt CH.out)).trans CH.out
          refine Does2.value (.agg #[.slice a n c]) (w' := w9) ?_ ⟨rfl, hS, Below.refl _ _⟩
          clear hS h0 hd
          go_simp
        case refine_2 =>
          intro a' w9 hS h0 hd
          have e3 : a'.tmps[3]?.getD undef = .pointer (some ⟨w.heap.size + 1, 0, none⟩) := evG (h0 3 (by kernel_rfl))
          refine Does2.value (.pointer (some ⟨w.heap.size + 1, 3, none⟩)) (w' := w9) ?_ ⟨rfl, hS, Below.refl _ _⟩
          clear hS h0 hd
          go_simp
        case refine_3 =>
          intro a' w9 hS h0 hd
          have e29 : a'.tmps[29]?.getD undef = .pointer (some ⟨w.heap.size + 1, 3, none⟩) := evG (hd 1 List.mem_cons_self)
          have c0 := (hS.cell (cell_lt Q3.out)).trans Q3.out
          refine Does2.value (.int .u32 g) (w' := w9) ?_ ⟨rfl, hS, Below.refl _ _⟩
          clear hS h0 hd
          go_simp
        case refine_4 =>
          intro a' w9 hS h0 hd
          have e28 : a'.tmps[28]?.getD undef = .agg #[.slice a n c] := evG (hd 0 List.mem_cons_self)
          have e30 : a'.tmps[30]?.getD undef = .int .u32 g := evG (hd 2 (List.mem_cons_of_mem _ List.mem_cons_self))
          refine Does2.call 32 #[.agg #[.slice a n c], .int .u32 g] (w' := w9) ?_ ((hWants a n c ss g w9 HX.out HW.out (HH.out.below hS)).mono ?_)
          · clear hS h0 hd
            go_simp
          · rw [HW1.out]
            rintro e w8 ⟨⟨a8, c8, rfl, hA8, hf8⟩, hb⟩
            exact ⟨_, rfl, ⟨a8, c8, rfl, hA8⟩, hS.trans (hb.mono hS.size), hb⟩
        case refine_5 =>
          intro a' w9 hS h0 hd
          have e3 : a'.tmps[3]?.getD undef = .pointer (some ⟨w.heap.size + 1, 0, none⟩) := evG (h0 3 (by kernel_rfl))
          refine Does2.value (.pointer (some ⟨w.heap.size + 1, 7, none⟩)) (w' := w9) ?_ ⟨rfl, hS, Below.refl _ _⟩
          clear hS h0 hd
          go_simp
        case refine_6 =>
          intro a' w9 hS h0 hd
          have e32 : a'.tmps[32]?.getD undef = .pointer (some ⟨w.heap.size + 1, 7, none⟩) := evG (hd 4 List.mem_cons_self)
          have c0 := (hS.cell (cell_lt Q7.out)).trans Q7.out
          refine Does2.value (.slice b m cb) (w' := w9) ?_ ⟨rfl, hS, Below.refl _ _⟩
          clear hS h0 hd
          go_simp
        case refine_7 =>
          intro a' w9 hS h0 hd
          have e33 : a'.tmps[33]?.getD undef = .slice b m cb := evG (hd 5 List.mem_cons_self)
          refine Does2.call 42 #[.slice b m cb] (w' := w9) ?_ ((sMake b m cb ls w9 HY.out (by omega) (HL.out.below hS) HFL.out).mono ?_)
          · clear hS h0 hd
            go_simp
          · rintro e w8 ⟨⟨a8, c8, rfl, hA8, hf8⟩, hb⟩
            exact ⟨_, rfl, ⟨a8, c8, rfl, hA8⟩, hS.trans (hb.mono hS.size), hb⟩
        case refine_8 =>
          intro a' w9 hS h0 hd
          obtain ⟨a31, c31, e31, h31⟩ := hd 3 List.mem_cons_self
          replace e31 := evG e31
          obtain ⟨a34, c34, e34, h34⟩ := hd 6 (List.mem_cons_of_mem _ List.mem_cons_self)
          replace e34 := evG e34
          refine Does2.call 61 #[.agg #[.bool p1, .slice a31 l1.length c31], .slice a34 (mk ls).length c34] (w' := w9) ?_ ((hWanted p1 a31 _ c31 l1 a34 _ c34 (mk ls) w9 rfl rfl (by have := HLL.out; omega) (by have h1 := mk_len ls; have h2 := HY.out; omega) h31 h34).mono ?_)
          · clear hS h0 hd h31 h34
            go_simp
          · rintro e w8 ⟨⟨a8, c8, rfl, hA8, hf8⟩, hb⟩
            exact ⟨_, rfl, ⟨a8, c8, rfl, hA8, flat_nil' hf8⟩, hS.trans (hb.mono hS.size), hb⟩
        case refine_9 =>
          intro a' w9 hS h0 hd
          obtain ⟨a35, c35, e35, h35, n35⟩ := hd 7 List.mem_cons_self
          replace e35 := evG e35
          have q5 : a'.eval (.tmp 35) = .slice a35 (wantd (p1, l1) (mk ls)).length c35 := by simp [Act.eval, e35]
          refine Does2.value (.slice a35 (wantd (p1, l1) (mk ls)).length c35) (w' := w9) ?_ ⟨?_, hS, Below.refl _ _⟩
          · clear hS h0 hd h35 q5
            go_simp
          · show [a'.eval (.tmp 35)] = [Value.slice a35 (wantd (p1, l1) (mk ls)).length c35]
            rw [q5]
        case hend =>
          intro f w9 hS hv
          obtain ⟨a35, c35, v35, h35, n35⟩ := hv 7 (by decide)
          replace v35 : f 35 = .slice a35 (wantd (p1, l1) (mk ls)).length c35 := v35
          have v5 : [f 35] = [f 5] := hv 8 (by decide)
          rw [v35] at v5
          replace v5 : f 5 = .slice a35 (wantd (p1, l1) (mk ls)).length c35 := by simpa using v5.symm
          simp only [putAll, Act.put, List.setIfInBounds_toArray, List.set_cons_zero, List.set_cons_succ, v5]
          obtain ⟨wl, hwl⟩ : ∃ wl, wantd (p1, l1) (mk ls) = wl := ⟨_, rfl⟩
          rw [hwl] at h35 ⊢
          have HWL := Lib.hid hwl
          have H35 := Lib.hid h35
          have N35 := Lib.hid n35
          have HB9 := Lib.hid (HB.out.trans (hS.mono HB.out.size))
          have c0 := (hS.cell (cell_lt Q3.out)).trans Q3.out
          clear hS hv v35 v5 h35 n35 hwl
          rcases wl with _ | ⟨x1, wl⟩
          · have HA : Hid (answer ss 17 g ls = []) := Lib.hid (by unfold answer; rw [if_pos rfl, if_neg hg0, if_neg hls0, HW1.out, if_pos HWL.out])
            clear c0
            simp only [List.length_nil]
            go_wp2_with fail
            go_ret
            rw [HA.out]
            exact ⟨⟨none, 0, [], rfl, rfl, Rcs.nil _ _, fun _ => rfl⟩, HB9.out⟩
          · have HA : Hid (answer ss 17 g ls = [⟨1, g, x1 :: wl, none, 0⟩]) := Lib.hid (by unfold answer; rw [if_pos rfl, if_neg hg0, if_neg hls0, HW1.out, HWL.out, if_neg (by simp)])
            have hnl : ((wl.length : Int) + 1 == 0) = false := beq_eq_false_iff_ne.2 (by omega)
            have HRC := Lib.hid (recs_new1 (r := ⟨1, g, x1 :: wl, a35, c35⟩) (w := w9) ⟨H35.out, N35.out⟩)
            simp only [List.length_cons] at *
            go_wp2_with fail
            go_ret
            rw [HA.out]
            exact ⟨⟨_, 1, [⟨1, g, x1 :: wl, a35, c35⟩], rfl, rfl, HRC.out, fun e => by cases e⟩, HB9.out.alloc HB9.out.size _⟩
  · have hk1 : (kind != 17) = true := by simpa using hk
    have HA : Hid (answer ss kind g ls = []) := Lib.hid (by unfold answer; rw [if_neg hk])
    clear hk
    go_wp2_with fail
    go_ret
    rw [HA.out]
    exact ⟨⟨none, 0, [], rfl, rfl, Rcs.nil _ _, fun _ => rfl⟩, HB.out⟩
end Go.Proofs.Ytmcbbccbonadjaa
/- What hosts want, plainly; what the laws' texts share. -/
namespace Go.Proofs.Ytmcbbccbonadjaa
set_option linter.unusedVariables false
open Go.RowKit

theorem okH_few {ss : List Sk} (h : okH ss) : FewS ss := ⟨by have := h.2.2; omega, fun s hs => by have := (h.1 s hs).2.2.1; omega⟩
theorem wants_inc {ss : List Sk} (h : okH ss) (g : Int) : Inc (wants g ss).2 := flt_inc fun f hf => by
  obtain ⟨s, hs, rfl⟩ := List.mem_map.1 hf
  exact (h.1 s (List.mem_filter.1 hs).1).2.2.2
theorem wants_any {ss : List Sk} (h : okH ss) (g x : Int) : (decide (x ∈ (wants g ss).2) != (wants g ss).1) = ss.any (fun s => (s.g == g) && wf x s.f) := by
  have h1 := flt_wants (fs := ofG g ss) (fun f hf => by
    obtain ⟨s, hs, rfl⟩ := List.mem_map.1 hf
    exact (h.1 s (List.mem_filter.1 hs).1).2.2.2) x
  unfold wants
  rw [h1]
  unfold ofG
  rw [List.any_map, List.any_filter]
  rfl
theorem any_succS {ss : List Sk} {k : Nat} {s : Sk} (h : ss[k]? = some s) (p : Sk → Bool) : (ss.take (k + 1)).any p = ((ss.take k).any p || p s) := by
  rw [takeS h, List.any_append]; simp
theorem wantd_dec {p1 : Bool} {l1 : List Int} (h1 : Inc l1) (ls : List Int) (x : Int) : decide (x ∈ wantd (p1, l1) (mk ls)) = ((decide (x ∈ l1) != p1) && decide (x ∈ ls)) := by
  rw [Bool.eq_iff_iff]
  unfold wantd
  cases p1
  · simp [int_mem (mk_inc ls) h1, mk_mem]; exact and_comm
  · simp [dif_mem (mk_inc ls) h1, mk_mem]; exact and_comm
end Go.Proofs.Ytmcbbccbonadjaa
