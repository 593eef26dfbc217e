/- Package set's Filter. -/
import Derived.Test.YtikanaabecmkcaaPh
namespace Go.Proofs.Ytikanaabecmkcaa
set_option linter.unusedVariables false
open Go.RowKit

theorem blk_ty {w w' : World} {g B2 size2 m : Nat} {e e2 : TypeId} {c : Array Value} {v2 : Value} {ys : List Value} (h : w.heap[g]? = some (.cells c e (0, 0))) (h2 : w.ownsRow B2 e2 size2 v2 m ys) (hne : e ≠ e2) (hg : w.grownBy w' v2.ownBlock) : w'.heap[g]? = some (.cells c e (0, 0)) := by
  refine (hg.block g (Array.getElem?_eq_some_iff.1 h).1 fun e' => ?_).trans h
  rcases h2.2 with ⟨rfl, _⟩ | ⟨g2, cap2, cur2, rfl, _, hb2, _⟩
  · simp [Value.ownBlock] at e'
  · obtain rfl : g = g2 := by simpa [Value.ownBlock] using e'
    rw [h] at hb2
    simp at hb2
    exact hne hb2.2
theorem blk_alloc {w : World} {g : Nat} {o : Obj} (h : w.heap[g]? = some o) (o' : Obj) : (w.alloc o').heap[g]? = some o := (((Below.refl w.heap.size w).alloc (Nat.le_refl _) o').block g (Array.getElem?_eq_some_iff.1 h).1).trans h
theorem take_succ {fs : List Flt} {k : Nat} {f : Flt} (h : fs[k]? = some f) : fs.take (k + 1) = fs.take k ++ [f] := by
  rw [List.take_add_one, h]; rfl
/-- What Filter hands back. -/
def OutF (w : World) (e : Ending) (w' : World) (r : Bool × List Int) : Prop := (∃ a c, e = .returned (.agg #[.bool r.1, .slice a r.2.length c]) ∧ As w' a r.2 ∧ Flat a r.2.length c) ∧ Below w.heap.size w w'

theorem As.other {w w' : World} {a : Option Addr} {xs : List Int} {N : Nat} (h : As w a xs) (hN : ∀ o x, w.cell? ⟨N, o, none⟩ ≠ some (.int .u32 x)) (hb : ∀ k, k ≠ N → w'.heap[k]? = w.heap[k]?) : As w' a xs := by
  refine ⟨?_, h.2⟩
  rcases h.1 with e | ⟨b, off, e, hc⟩
  · exact .inl e
  · refine .inr ⟨b, off, e, fun k hk => ?_⟩
    have hne : b ≠ N := fun e' => by subst e'; exact hN _ _ (hc k hk)
    exact (World.cell?_of_block (w := w) (hb b hne)).trans (hc k hk)
/-- The result's variable, filled. -/
theorem fin_filter {w w5 : World} {N : Nat} (hR : w5.heap[N]? = some (.cells #[.bool false, .slice none 0 0] 35 (0, 0))) (hb : Below N w w5) {a : Option Addr} {zs : List Int} (hA : As w5 a zs) (ex : Bool) (c : Nat) :
    ((w5.cell? ⟨N, 0, none⟩ = some (.bool false) ∧ w5.cell? ⟨N, 1, none⟩ = some (.slice none 0 0)) ∧ w5.frozen? ⟨N, 0, none⟩ = false ∧ w5.frozen? ⟨N, 1, none⟩ = false) ∧
    (loadVar 35 ⟨N, 0, none⟩).run Try.prog ((w5.setCell ⟨N, 0, none⟩ (.bool ex)).setCell ⟨N, 1, none⟩ (.slice a zs.length c)) = .ok (.agg #[.bool ex, .slice a zs.length c]) ((w5.setCell ⟨N, 0, none⟩ (.bool ex)).setCell ⟨N, 1, none⟩ (.slice a zs.length c)) ∧
    As ((w5.setCell ⟨N, 0, none⟩ (.bool ex)).setCell ⟨N, 1, none⟩ (.slice a zs.length c)) a zs ∧ Below N w ((w5.setCell ⟨N, 0, none⟩ (.bool ex)).setCell ⟨N, 1, none⟩ (.slice a zs.length c)) := by
  refine ⟨⟨⟨by simp [World.cell?, hR], by simp [World.cell?, hR]⟩, by simp [World.frozen?, hR], by simp [World.frozen?, hR]⟩, ?_, ?_, (hb.setCell (p := ⟨N, 0, none⟩) (Nat.le_refl _) _).setCell (p := ⟨N, 1, none⟩) (Nat.le_refl _) _⟩
  · have hR2 : ((w5.setCell ⟨N, 0, none⟩ (.bool ex)).setCell ⟨N, 1, none⟩ (.slice a zs.length c)).heap[N]? = some (.cells #[.bool ex, .slice a zs.length c] 35 (0, 0)) := by simp [World.setCell, Array.getElem?_modify, hR]
    generalize (w5.setCell ⟨N, 0, none⟩ (.bool ex)).setCell ⟨N, 1, none⟩ (.slice a zs.length c) = W at *
    have c0 : W.cell? ⟨N, 0, none⟩ = some (.bool ex) := by simp [World.cell?, hR2]
    have c1 : W.cell? ⟨N, 1, none⟩ = some (.slice a zs.length c) := by simp [World.cell?, hR2]
    clear hR2 hR hb hA
    go_simp
  · refine hA.other (N := N) (fun o x e => ?_) fun k hk => ?_
    · simp only [World.cell?, hR] at e
      match o with
      | 0 => simp at e
      | 1 => simp at e
      | o + 2 => simp at e
    · rw [Below.heap_setCell _ ⟨N, 1, none⟩ _ k hk, Below.heap_setCell _ ⟨N, 0, none⟩ _ k hk]
theorem own_cell {w : World} {B n : Nat} {e : TypeId} {a : Option Addr} {c : Nat} {xs : List Value} (h : w.ownsRow B e 1 (.slice a n c) n xs) (hn : 0 < n) : ∃ g, a = some ⟨g, 0, none⟩ ∧ n ≤ c ∧ ∀ j u, xs[j]? = some u → w.cell? ⟨g, j, none⟩ = some u := by
  obtain ⟨hl, h⟩ := h
  rcases h with ⟨_, e⟩ | ⟨g, cap, cur, e, hB, hg, hnc, _, hsz, htk⟩
  · omega
  · simp at e
    obtain ⟨rfl, rfl⟩ := e
    refine ⟨g, rfl, hnc, fun j u hu => ?_⟩
    have hj : j < n := by have := (List.getElem?_eq_some_iff.1 hu).1; omega
    rw [← htk, List.getElem?_take_of_lt (by omega)] at hu
    simp [World.cell?, hg]
    simpa using hu
theorem thr_left (a b : List Int) : ((thr a b).filter fun t => t.2.1).length = a.length := by
  refine thr_ind (P := fun a b => ((thr a b).filter fun t => t.2.1).length = a.length) ?_ ?_ ?_ ?_ ?_ ?_ a b
  · rw [thr_nil]; rfl
  · intro x a h; rw [thr_l]; simp at h ⊢; exact h
  · intro y b h; rw [thr_r]; simp at h ⊢; exact h
  · intro x y a b hxy h; rw [thr_lt hxy]; simp at h ⊢; exact h
  · intro x y a b hxy h; rw [thr_gt hxy]; simp at h ⊢; exact h
  · intro x a b h; rw [thr_eq]; simp at h ⊢; exact h
theorem filter_le {l : List Z3} {p q : Z3 → Bool} (h : ∀ t, p t = true → q t = true) : (l.filter p).length ≤ (l.filter q).length := by
  induction l with
  | nil => simp
  | cons t l ih =>
    rw [List.filter_cons, List.filter_cons]
    cases hp : p t with
    | true => rw [h t hp]; simp; exact ih
    | false =>
      cases hq : q t <;> simp <;> omega
theorem int_len (a b : List Int) : (int a b).length ≤ a.length := by
  unfold int those
  rw [List.length_map, ← thr_left a b]
  exact filter_le fun t h => by simp at h; exact h.1
theorem dif_len (a b : List Int) : (dif a b).length ≤ a.length := by
  unfold dif those
  rw [List.length_map, ← thr_left a b]
  exact filter_le fun t h => by simp at h; exact h.1
theorem fold_len (r : List Flt) (l : List Int) : (r.foldl (fun l g => int l g.srcs) l).length ≤ l.length := by
  induction r generalizing l with
  | nil => exact Nat.le_refl _
  | cons g r ih => exact Nat.le_trans (ih _) (int_len _ _)
theorem fold_succ {r : List Flt} {k : Nat} {g : Flt} (h : r[k]? = some g) (l : List Int) : (r.take (k + 1)).foldl (fun l g => int l g.srcs) l = int ((r.take k).foldl (fun l g => int l g.srcs) l) g.srcs := by
  rw [take_succ h, List.foldl_append]; rfl

set_option maxRecDepth 100000 in
set_option maxHeartbeats 4000000 in
theorem sFilter (a : Option Addr) (n c : Nat) (fs : List Flt) (w : World) (hx : fs.length = n) (hfew : FewF fs) (hF : Fls w a fs) :
    Calls Try.prog 27 #[.slice a n c] w fun e w' => OutF w e w' (flt fs) := by
  obtain ⟨i0, hi, hz0, hz1, hz2⟩ := info_parts infoS
  have hn400 : n ≤ 400 := by rw [← hx]; exact hfew.1
  have HX := Lib.hid hx
  have HF := Lib.hid hF
  have HW := Lib.hid hfew
  have hwo : ∀ k, (wo (fs.take k)).length ≤ 160000 := fun k => by
    have h1 := wo_len (fs := fs.take k) fun f hf => hfew.2 f (List.mem_of_mem_take hf)
    have h2 : (fs.take k).length ≤ 400 := Nat.le_trans (List.length_take_le' _ _) hfew.1
    omega
  have hws : ∀ k, (withs (fs.take k)).length ≤ 400 := fun k => by
    have h2 : (fs.take k).length ≤ 400 := Nat.le_trans (List.length_take_le' _ _) hfew.1
    have : (withs (fs.take k)).length ≤ (fs.take k).length := List.length_filter_le _ _
    omega
  have HWO := Lib.hid hwo
  have HWS := Lib.hid hws
  clear hx hF hfew hwo hws
  go_enter Try.func27, Try.ntmps27
  go_wp2
  go_loopw [3, 4, 13] (fun v3 v4 v13 wr => ∃ k : Nat, v13 = .int .i64 (k : Int) ∧ k ≤ n ∧ wr.ownsRow w.heap.size 22 1 v3 (withs (fs.take k)).length ((withs (fs.take k)).map Flt.sl) ∧ wr.ownsRow w.heap.size 24 1 v4 (wo (fs.take k)).length (va (wo (fs.take k))) ∧
      Below w.heap.size w wr ∧ wr.heap[w.heap.size]? = some (.cells #[.bool false, .slice none 0 0] 35 (0, 0))) (fun _ _ v _ => n - (intOf v).toNat)
  case atStart => exact ⟨0, rfl, by omega, World.ownsRow_nil _ _ _ _, World.ownsRow_nil _ _ _ _, bel1 w _, Go.Deep.blk_alloc_new _ _⟩
  case round =>
    obtain ⟨k, rfl, hk, h3, h4, hB, hR⟩ := hrel
    have H3 := Lib.hid h3
    have H4 := Lib.hid h4
    have HB := Lib.hid hB
    have HR := Lib.hid hR
    have hNs : w.heap.size < wr.heap.size := (Array.getElem?_eq_some_iff.1 hR).1
    clear h3 h4 hB hR
    by_cases hlt : k < n
    · obtain ⟨b, off, rfl, hc⟩ := HF.out.at (k := k) (by rw [HX.out]; exact hlt)
      obtain ⟨⟨ex, srcs, fa, fc⟩, hfk⟩ : ∃ f, fs[k]? = some f := ⟨_, List.getElem?_eq_getElem (by rw [HX.out]; exact hlt)⟩
      have hat := (hc k _ hfk).below HB.out
      have hmem := List.mem_of_getElem? hfk
      have hs400 : srcs.length ≤ 400 := HW.out.2 _ hmem
      obtain ⟨⟨c0, c1⟩, hok⟩ := hat
      simp only [Flt.sl] at c1
      have HOK := Lib.hid hok
      have HFK := Lib.hid hfk
      have b1 := HWO.out k
      have b2 := HWS.out k
      have hkz : (k : Int) < (n : Int) := by omega
      clear hc hok hfk hmem
      cases ex
      · go_wp2_with (first | (refine wpList_app_as rfl (.tmp 24) (.tmp 26) rfl w.heap.size _ (wo (fs.take k)).length (wo (fs.take k)) rfl (H4.out.alloc _) rfl fa srcs.length fc srcs rfl rfl (HOK.out.below (bel1 wr _)).1 HOK.out.2 (by omega) (by simp; omega) ?_; intro a' cap' w' hown hg))
        go_roundw
        case rel =>
          refine ⟨k + 1, by go_num, by omega, ?_, ?_, HB.out.trans (((Below.refl _ wr).alloc HB.out.size _).trans (grown_below (H4.out.alloc _) hg.out (by simp; omega))), blk_ty (blk_alloc HR.out _) (H4.out.alloc _) (by decide) hg.out⟩
          · rw [take_succ HFK.out, withs_no rfl]
            exact own_ty (H3.out.alloc _) (H4.out.alloc _) (by decide) hg.out
          · rw [take_succ HFK.out, wo_no rfl, List.length_append]
            exact hown.out
        case measure => simp [intOf]; omega
      · have hn1 := news_new (wr.alloc (.cells #[.bool true, .slice fa srcs.length fc] 35)) [.slice fa srcs.length fc] 22
        rw [World.size_alloc] at hn1
        have HN1 := Lib.hid hn1
        clear hn1
        go_wp2_with (first | (refine wpList_app_cell rfl 47 22 i0 (.slice none 0 0) 1 24 Try.underlying47 hi hz0 hz1 hz2 rfl (by decide) (by omega) (.tmp 19) (.tmp 22) rfl w.heap.size _ (withs (fs.take k)).length ((withs (fs.take k)).map Flt.sl) rfl ((H3.out.alloc _).alloc _) ⟨wr.heap.size + 1, 0, none⟩ 1 [.slice fa srcs.length fc] rfl rfl HN1.out (by simp [Value.oneCell']) (by omega) (by simp; omega) ?_; intro a' cap' w' hown hg))
        go_roundw
        case rel =>
          refine ⟨k + 1, by go_num, by omega, ?_, ?_, HB.out.trans ((((Below.refl _ wr).alloc HB.out.size _).alloc (by simp; omega) _).trans (grown_below ((H3.out.alloc _).alloc _) hg.out (by simp; omega))), blk_ty (blk_alloc (blk_alloc HR.out _) _) ((H3.out.alloc _).alloc _) (by decide) hg.out⟩
          · rw [take_succ HFK.out, withs_yes rfl, List.length_append, List.map_append]
            exact hown.out
          · rw [take_succ HFK.out, wo_yes rfl]
            exact own_ty ((H4.out.alloc _).alloc _) ((H3.out.alloc _).alloc _) (by decide) hg.out
        case measure => simp [intOf]; omega
    · obtain rfl : k = n := by omega
      have htk : fs.take k = fs := List.take_of_length_le (by rw [HX.out]; exact Nat.le_refl _)
      have b1 := HWO.out k
      have b2 := HWS.out k
      have H3' := H3.out
      have H4' := H4.out
      rw [htk] at H3' H4' b1 b2
      clear H3 H4 htk
      obtain ⟨a3, c3, rfl, f3⟩ := own_sl H3'
      obtain ⟨a4, c4, rfl, f4⟩ := own_sl H4'
      have H3 := Lib.hid H3'
      have H4 := Lib.hid H4'
      have hA4 := (AsO.of rfl H4').as (wo_isA fun f hf => by
        obtain ⟨i, hi, e⟩ := List.getElem_of_mem hf
        obtain ⟨b, off, _, hc⟩ := HF.out.at hi
        exact (hc i f (by rw [List.getElem?_eq_getElem hi, e])).2)
      have HA4 := Lib.hid hA4
      have F4 := Lib.hid f4
      have F3 := Lib.hid f3
      clear H3' H4' hA4 f3 f4
      go_wp2_with fail
      refine (sMake a4 _ c4 (wo fs) _ rfl (by omega) HA4.out F4.out).mono ?_
      rintro e w5 ⟨⟨a5, c5, rfl, hA5, hf5⟩, hB5⟩
      have HA5 := Lib.hid hA5
      have HF5 := Lib.hid hf5
      have HB5 := Lib.hid hB5
      have H35 := Lib.hid (own_grown H3.out hB5 (Nat.le_refl _))
      have HR5 : Hid (w5.heap[w.heap.size]? = some (.cells #[.bool false, .slice none 0 0] 35 (0, 0))) := Lib.hid ((hB5.block _ hNs).trans HR.out)
      have HBB := Lib.hid (HB.out.trans (hB5.mono HB.out.size))
      clear hA5 hf5 hB5
      have hwm : ∀ f ∈ withs fs, FOk w f ∧ f.srcs.length ≤ 400 := fun f hf => by
        have hf' := (List.mem_filter.1 hf).1
        refine ⟨?_, HW.out.2 f hf'⟩
        obtain ⟨i, hi, e⟩ := List.getElem_of_mem hf'
        obtain ⟨b, off, _, hc⟩ := HF.out.at hi
        exact (hc i f (by rw [List.getElem?_eq_getElem hi, e])).2
      have hmk := mk_len (wo fs)
      rcases hw : withs fs with _ | ⟨f0, rest⟩
      · have hfl : flt fs = (false, mk (wo fs)) := by unfold flt; rw [hw]
        have HFL := Lib.hid hfl
        obtain ⟨⟨⟨r0, r1⟩, q0, q1⟩, hl, hA', hb'⟩ := fin_filter HR5.out HBB.out HA5.out false c5
        have HL := Lib.hid hl
        have HA' := Lib.hid hA'
        have HB' := Lib.hid hb'
        clear hfl hwm hl hA' hb' hmk
        simp only [List.length_nil]
        go_wp2_with fail
        refine ret_cell1 (p := 2) rfl rfl rfl HL.out ?_
        rw [HFL.out]
        exact ⟨⟨a5, c5, rfl, HA'.out, HF5.out⟩, HB'.out⟩
      · have hfl : flt fs = (true, dif (rest.foldl (fun l g => int l g.srcs) f0.srcs) (mk (wo fs))) := by unfold flt; rw [hw]
        have HFL := Lib.hid hfl
        obtain ⟨m, hm⟩ : ∃ m, rest.length = m := ⟨_, rfl⟩
        have hl1 : (f0 :: rest).length = m + 1 := by simp [hm]
        have HM := Lib.hid hm
        have H35' := H35.out
        have hwm' := hwm
        rw [hw] at b2 H35' hwm'
        rw [hl1] at b2 H35' ⊢
        clear hwm
        have hwm := hwm'
        clear hwm' hw
        obtain ⟨g, rfl, hnc, hcell⟩ := own_cell H35' (by omega)
        have c0 : w5.cell? ⟨g, 0, none⟩ = some (.slice f0.a f0.srcs.length f0.c) := hcell 0 _ rfl
        have HC := Lib.hid hcell
        have HWM := Lib.hid hwm
        have hA0 : As w5 f0.a f0.srcs := (hwm f0 (by simp)).1.1.below HBB.out
        have HA0 := Lib.hid hA0
        clear hfl hm hl1 H35' hcell hwm hA0 H35
        go_wp2_with fail
        all_goals
          go_loopw [8, 10, 42] (fun v8 v10 v42 wr2 => ∃ (j : Nat) (a' : Option Addr) (c' : Nat), v42 = .int .i64 (j : Int) ∧ j ≤ m ∧ v8 = .slice a' ((rest.take j).foldl (fun l g => int l g.srcs) f0.srcs).length c' ∧ As wr2 a' ((rest.take j).foldl (fun l g => int l g.srcs) f0.srcs) ∧ Below w5.heap.size w5 wr2) (fun _ _ v _ => m - (intOf v).toNat)
          case atStart => exact ⟨0, f0.a, f0.c, rfl, by omega, rfl, HA0.out, Below.refl _ _⟩
          case round =>
            obtain ⟨j, a', c', rfl, hj, rfl, hA, hB2⟩ := hrel
            have HA := Lib.hid hA
            have HB2 := Lib.hid hB2
            have hlen := Nat.le_trans (fold_len (rest.take j) f0.srcs) (HWM.out f0 (by simp)).2
            clear hA hB2
            by_cases hlt2 : j < m
            · first
              | (exfalso; omega)
              | (obtain ⟨⟨ex, srcs, fa, fc⟩, hfj⟩ : ∃ f, rest[j]? = some f := ⟨_, List.getElem?_eq_getElem (by rw [HM.out]; exact hlt2)⟩
                 have hck : wr.cell? ⟨g, 1 + j, none⟩ = some (.slice fa srcs.length fc) := by
                   have hck := HC.out (1 + j) (.slice fa srcs.length fc) (by rw [Nat.add_comm]; simp [hfj, Flt.sl])
                   exact (HB2.out.cell (cell_lt hck)).trans hck
                 have hmf := HWM.out _ (List.mem_cons_of_mem _ (List.mem_of_getElem? hfj))
                 have hs := hmf.2
                 have HOK := Lib.hid hmf.1
                 have HFJ := Lib.hid hfj
                 have hjz : (j : Int) < (m : Int) := by omega
                 have hsucc := fold_succ hfj f0.srcs
                 have HSU := Lib.hid hsucc
                 clear hfj hmf hsucc
                 go_wp2_with fail
                 refine (sInter _ _ _ _ _ _ _ srcs wr rfl rfl (by omega) (by omega) HA.out (HOK.out.1.below ((HBB.out.trans (HB2.out.mono HBB.out.size)).mono (Nat.le_refl _)))).mono ?_
                 rintro e w6 ⟨⟨a6, c6, rfl, hA6, hf6⟩, hB6⟩
                 have HA6 := Lib.hid hA6
                 have HB6 := Lib.hid hB6
                 clear hA6 hf6 hB6
                 go_wp2_with fail
                 go_roundw
                 case rel =>
                   refine ⟨j + 1, a6, c6, by go_num, by omega, ?_, ?_, HB2.out.trans (HB6.out.mono HB2.out.size)⟩
                   · rw [HSU.out]
                   · rw [HSU.out]; exact HA6.out
                 case measure => simp [intOf]; omega)
            · obtain rfl : j = m := by omega
              have htk : rest.take j = rest := List.take_of_length_le (by rw [HM.out]; exact Nat.le_refl _)
              have HA' := HA.out
              rw [htk] at HA' hlen ⊢
              have HAr := Lib.hid HA'
              clear HA HA' htk
              have hBw := HBB.out.trans (HB2.out.mono HBB.out.size)
              have HR6 : Hid (wr.heap[w.heap.size]? = some (.cells #[.bool false, .slice none 0 0] 35 (0, 0))) := Lib.hid ((HB2.out.block _ (Array.getElem?_eq_some_iff.1 HR5.out).1).trans HR5.out)
              have HBW := Lib.hid hBw
              clear hBw
              go_wp2_with fail
              refine (sMinus _ _ _ _ _ _ _ (mk (wo fs)) wr rfl rfl (by omega) (by omega) HAr.out (HA5.out.below HB2.out)).mono ?_
              rintro e w6 ⟨⟨a6, c6, rfl, hA6, hf6⟩, hB6⟩
              have HF6 := Lib.hid hf6
              obtain ⟨⟨⟨r0, r1⟩, q0, q1⟩, hl, hA', hb'⟩ := fin_filter ((hB6.block _ (Array.getElem?_eq_some_iff.1 HR6.out).1).trans HR6.out) (HBW.out.trans (hB6.mono HBW.out.size)) hA6 true c6
              have HL := Lib.hid hl
              have HA' := Lib.hid hA'
              have HB' := Lib.hid hb'
              clear hl hA' hb' hA6 hf6 hB6
              go_wp2_with fail
              refine ret_cell1 (p := 2) rfl rfl rfl HL.out ?_
              rw [HFL.out]
              exact ⟨⟨a6, c6, rfl, HA'.out, HF6.out⟩, HB'.out⟩
end Go.Proofs.Ytikanaabecmkcaa
